"""Promises 2 to 6 and 11: run_drill."""

import copy
import inspect
import unittest

from drillrow import calls
from drillrow.calls import run_drill
from drillrow.errors import BadCall, BadRow
from tests.samples import INVALID_CALLS, VALID_CALLS, draw_samples, drills_with_one_fault, model_drill


class Examples(unittest.TestCase):
    def test_first_example(self):
        self.assertEqual(run_drill([(1, 'a', 'c'), (1, 'b', 'a'), (1, 'c', 'b')], 'aa'), 'ba')

    def test_states_of_first_example(self):
        self.assertEqual(run_drill([(1, 'a', 'c')], 'aa'), 'ca')
        self.assertEqual(run_drill([(1, 'b', 'a')], 'ca'), 'ca')
        self.assertEqual(run_drill([(1, 'c', 'b')], 'ca'), 'ba')

    def test_second_example(self):
        with self.assertRaises(BadCall) as raised:
            run_drill([(0, 'a', 'c')], 'az')
        self.assertEqual(raised.exception.value, 0)


class Interface(unittest.TestCase):
    def test_defined_in_its_file(self):
        self.assertEqual(calls.run_drill.__module__, "drillrow.calls")
        self.assertTrue(inspect.isfunction(calls.run_drill))

    def test_names_of_arguments(self):
        self.assertEqual(list(inspect.signature(run_drill).parameters), ["drill", "row"])

    def test_by_name(self):
        self.assertEqual(run_drill(row="aba", drill=[(2, "a", "c")]), "abc")
        self.assertEqual(run_drill([(2, "a", "c")], row="aba"), "abc")

    def test_kind_of_value(self):
        for drill in ([], VALID_CALLS):
            for row in ("", "abcdef"):
                self.assertIs(run_drill(drill, row).__class__, str)


class NumberedCalls(unittest.TestCase):
    def test_each_number(self):
        for number, after in [(1, "cbaba"), (2, "abcba"), (3, "ababc"), (4, "ababa"), (20, "ababa")]:
            with self.subTest(number=number):
                self.assertEqual(run_drill([(number, "a", "c")], "ababa"), after)

    def test_counts_from_the_front(self):
        self.assertEqual(run_drill([(2, "b", "a")], "bbba"), "baba")

    def test_only_wearers_of_the_source_count(self):
        self.assertEqual(run_drill([(2, "a", "b")], "bbabba"), "bbabbb")

    def test_too_few_wearers(self):
        self.assertEqual(run_drill([(3, "a", "b")], "aba"), "aba")
        self.assertEqual(run_drill([(1, "f", "b")], "aba"), "aba")

    def test_twenty(self):
        self.assertEqual(run_drill([(20, "a", "b")], "a" * 20), "a" * 19 + "b")
        self.assertEqual(run_drill([(20, "a", "b")], "a" * 19), "a" * 19)
        self.assertEqual(run_drill([(20, "e", "f")], "de" * 30), "de" * 19 + "df" + "de" * 10)

    def test_a_number_far_above_the_row(self):
        self.assertEqual(run_drill([(10 ** 29, "a", "b")], "a" * 60), "a" * 60)

    def test_the_last_of_sixty(self):
        self.assertEqual(run_drill([(1, "f", "a")], "b" * 59 + "f"), "b" * 59 + "a")


class WordedCalls(unittest.TestCase):
    def test_all(self):
        self.assertEqual(run_drill([("all", "a", "b")], "abcab"), "bbcbb")

    def test_all_of_nobody(self):
        self.assertEqual(run_drill([("all", "d", "a")], "abc"), "abc")
        self.assertEqual(run_drill([("all", "a", "d")], "abc"), "dbc")

    def test_swap(self):
        self.assertEqual(run_drill([("swap", "a", "b")], "abcab"), "bacba")
        self.assertEqual(run_drill([("swap", "b", "a")], "abcab"), "bacba")

    def test_swap_with_a_colour_that_nobody_wears(self):
        self.assertEqual(run_drill([("swap", "a", "f")], "abca"), "fbcf")
        self.assertEqual(run_drill([("swap", "f", "a")], "abca"), "fbcf")

    def test_swap_of_two_colours_that_nobody_wears(self):
        self.assertEqual(run_drill([("swap", "e", "f")], "abca"), "abca")

    def test_sixty(self):
        row = "abcdef" * 10
        self.assertEqual(run_drill([("all", "f", "a")], row), "abcdea" * 10)
        self.assertEqual(run_drill([("swap", "f", "a")], row), "fbcdea" * 10)


class Drills(unittest.TestCase):
    def test_empty_drill(self):
        for row in ("", "a", "fedcba", "abcdef" * 10):
            self.assertEqual(run_drill([], row), row)

    def test_empty_row(self):
        for call in VALID_CALLS:
            self.assertEqual(run_drill([call], ""), "")
        self.assertEqual(run_drill(VALID_CALLS, ""), "")

    def test_calls_in_order(self):
        self.assertEqual(run_drill([(1, "a", "b"), ("all", "b", "c")], "aab"), "cac")
        self.assertEqual(run_drill([("all", "b", "c"), (1, "a", "b")], "aab"), "bac")

    def test_each_call_finds_what_the_last_one_left(self):
        self.assertEqual(run_drill([(2, "a", "b"), (2, "a", "b")], "aaaa"), "abba")
        self.assertEqual(run_drill([(1, "a", "b"), (1, "b", "c")], "ab"), "cb")

    def test_every_pair_of_colours(self):
        for source in "abcdef":
            for target in "abcdef":
                if source != target:
                    row = source + target + source
                    self.assertEqual(run_drill([(2, source, target)], row), source + target + target)
                    self.assertEqual(run_drill([("all", source, target)], row), target * 3)
                    self.assertEqual(run_drill([("swap", source, target)], row), target + source + target)

    def test_a_long_drill(self):
        self.assertEqual(run_drill([(1, "a", "b"), (1, "b", "a")] * 5000, "aab"), "aab")
        for many in (8, 9, 59, 60, 2000):
            self.assertEqual(run_drill([(1, "a", "b")] * many, "a" * 60), ("b" * many + "a" * 60)[:60])

    def test_samples_against_the_model(self):
        for drill, row in draw_samples("calls", 1500):
            self.assertEqual(run_drill(drill, row), model_drill(drill, row), (drill, row))


class WrongDrills(unittest.TestCase):
    def assert_bad_call(self, drill, row, index):
        with self.assertRaises(BadCall) as raised:
            run_drill(drill, row)
        self.assertEqual(raised.exception.value, index)

    def test_each_fault_at_each_place(self):
        for drill, index in drills_with_one_fault():
            with self.subTest(drill=drill):
                self.assert_bad_call(drill, "abcdef", index)

    def test_first_of_several(self):
        for call in INVALID_CALLS:
            self.assert_bad_call([(1, "a", "b"), call, (1, "a", "b"), (0, "a", "b")], "ab", 1)
            self.assert_bad_call([(1, "a", "b"), (1, "c", "c"), call], "ab", 1)

    def test_found_in_an_empty_row(self):
        self.assert_bad_call([(1, "a", "b"), ("all", "a", "a")], "", 1)

    def test_found_where_the_call_would_change_nothing(self):
        self.assert_bad_call([(5, "a", "b"), ("swap", "f", "g")], "bb", 1)

    def test_before_a_wrong_row(self):
        for drill, index in drills_with_one_fault():
            for row in ("z", "az", "zab", "aZb"):
                self.assert_bad_call(drill, row, index)

    def test_valid_edges_are_not_refused(self):
        for call in [(1, "a", "f"), (20, "f", "a"), (10 ** 29, "a", "b"), ("all", "f", "a"), ("swap", "a", "f")]:
            self.assertEqual(run_drill([call], ""), "")


class WrongRows(unittest.TestCase):
    def assert_bad_row(self, drill, row, index):
        with self.assertRaises(BadRow) as raised:
            run_drill(drill, row)
        self.assertEqual(raised.exception.value, index)

    def test_each_wrong_character_at_each_place(self):
        for wrong in "gzAF01`- \n":
            for index in range(7):
                for drill in ([], VALID_CALLS):
                    row = "abcdef"[:index] + wrong + "abcdef"[index:]
                    self.assert_bad_row(drill, row, index)

    def test_first_of_several(self):
        self.assert_bad_row([], "abzcgz", 2)
        self.assert_bad_row([(1, "a", "b")], "zz", 0)

    def test_last_of_sixty(self):
        self.assert_bad_row([("all", "a", "b")], "a" * 59 + "g", 59)


class UnchangedArguments(unittest.TestCase):
    def test_after_a_run(self):
        drill = [(1, "a", "c"), ("swap", "a", "b"), ("all", "c", "d")]
        before = copy.deepcopy(drill)
        self.assertEqual(run_drill(drill, "aab"), "dba")
        self.assertEqual(drill, before)

    def test_after_an_error(self):
        for row, drill in [("az", [(1, "a", "c")]), ("ab", [(1, "a", "c"), (0, "a", "b")])]:
            before = copy.deepcopy(drill)
            self.assertRaises((BadCall, BadRow), run_drill, drill, row)
            self.assertEqual(drill, before)

    def test_a_drill_is_not_kept(self):
        drill = [(1, "a", "c")]
        self.assertEqual(run_drill(drill, "aa"), "ca")
        drill.append(("all", "a", "b"))
        self.assertEqual(run_drill(drill, "aa"), "cb")
        drill.clear()
        self.assertEqual(run_drill(drill, "aa"), "aa")

    def test_an_error_has_no_later_effect(self):
        self.assertRaises(BadCall, run_drill, [(0, "a", "b")], "ab")
        self.assertRaises(BadRow, run_drill, [(1, "a", "b")], "az")
        self.assertEqual(run_drill([(1, "a", "b")], "ab"), "bb")


if __name__ == "__main__":
    unittest.main()
