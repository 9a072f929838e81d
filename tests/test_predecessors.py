"""Promises 2, 3 and 19: count_predecessors."""

import copy
import inspect
import random
import unittest

from drillrow import predecessors
from drillrow.errors import BadCall, BadRow
from drillrow.predecessors import count_predecessors
from tests.samples import (
    COLOURS, INVALID_CALLS, VALID_CALLS, draw_call, drills_with_one_fault, model_drill, rows_of,
    rows_with_one_fault,
)

ALL_TO_A = [("all", colour, "a") for colour in "bcdef"]


def tally(drill, length):
    """Return how many rows of a length the drill turns into each row, from every row of the six colours."""
    told = {}
    for row in rows_of(length, COLOURS):
        after = model_drill(drill, row)
        told[after] = told.get(after, 0) + 1
    return told


def draw_drill(chance, colours, highest):
    """Draw a drill of up to eight calls."""
    return [draw_call(chance, colours, highest) for _ in range(chance.randint(0, 8))]


class Examples(unittest.TestCase):
    def test_the_example(self):
        self.assertEqual(count_predecessors([(1, 'a', 'b')], 'bba'), 2)

    def test_rows_of_the_example(self):
        found = [row for row in rows_of(3, COLOURS) if model_drill([(1, 'a', 'b')], row) == 'bba']
        self.assertEqual(found, ['aba', 'baa'])


class Interface(unittest.TestCase):
    def test_defined_in_its_file_with_these_arguments(self):
        self.assertTrue(inspect.isfunction(predecessors.count_predecessors))
        self.assertEqual(predecessors.count_predecessors.__module__, "drillrow.predecessors")
        self.assertEqual(list(inspect.signature(count_predecessors).parameters), ["drill", "row"])

    def test_by_name(self):
        self.assertEqual(count_predecessors(row="bba", drill=[(1, "a", "b")]), 2)
        self.assertEqual(count_predecessors([(1, "a", "b")], row="bba"), 2)

    def test_kind_of_value(self):
        for drill, row in [([], ""), ([], "a"), ([("all", "a", "b")], "a"), (VALID_CALLS, "abc")]:
            self.assertIs(count_predecessors(drill, row).__class__, int)


class Edges(unittest.TestCase):
    def test_empty_drill(self):
        for row in ("", "a", "fedcba", "abcdef" * 2, "a" * 12):
            self.assertEqual(count_predecessors([], row), 1)

    def test_empty_row(self):
        for drill in ([], VALID_CALLS, ALL_TO_A, [(1, "a", "b")]):
            self.assertEqual(count_predecessors(drill, ""), 1)

    def test_rows_without_predecessors(self):
        self.assertEqual(count_predecessors([("all", "a", "b")], "a"), 0)
        self.assertEqual(count_predecessors([("all", "a", "b")], "bbbbbbbbbbba"), 0)
        self.assertEqual(count_predecessors([(1, "a", "b")], "abbb"), 0)
        self.assertEqual(count_predecessors(ALL_TO_A, "aaaaaaaaaaab"), 0)
        self.assertEqual(count_predecessors(ALL_TO_A, "baaaaaaaaaaa"), 0)

    def test_swaps_have_one_predecessor(self):
        for row in ("a", "abcabc", "fedcba" * 2, "c" * 12):
            self.assertEqual(count_predecessors([("swap", "a", "b"), ("swap", "f", "b")], row), 1)

    def test_all_six_colours_may_occur(self):
        self.assertEqual(count_predecessors([("all", "f", "a")], "a"), 2)
        for length in range(13):
            self.assertEqual(count_predecessors([("all", "f", "a")], "a" * length), 2 ** length)
            self.assertEqual(count_predecessors([("all", "f", "a")], "b" * length), 1)
            self.assertEqual(count_predecessors(ALL_TO_A, "a" * length), 6 ** length)

    def test_more_than_the_wearers(self):
        self.assertEqual(count_predecessors([(12, "a", "b")], "a" * 11 + "b"), 2)
        self.assertEqual(count_predecessors([(12, "a", "b")], "a" * 12), 0)
        self.assertEqual(count_predecessors([(13, "a", "b")], "a" * 12), 1)
        self.assertEqual(count_predecessors([(20, "a", "b")], "a" * 12), 1)
        self.assertEqual(count_predecessors([(11, "a", "b")], "a" * 10 + "bb"), 3)

    def test_the_first_wearer_in_rows_of_each_length(self):
        # Each b with no a ahead may be the one that was an a; or there was no a at all.
        for length in range(13):
            self.assertEqual(count_predecessors([(1, "a", "b")], "b" * length), length + 1)
            for front in range(length):
                row = "b" * front + "a" * (length - front)
                self.assertEqual(count_predecessors([(1, "a", "b")], row), front)

    def test_a_long_drill(self):
        # As many a as there are calls turn into b, from the front.
        for many in range(14):
            self.assertEqual(count_predecessors([(1, "a", "b")] * many, "b" * 9), len(
                [row for row in rows_of(9, "ab") if row.count("a") <= many]))

    def test_twelve_people_and_eight_calls(self):
        six = [(12, "b", "c"), (11, "d", "e"), (13, "f", "b")]
        self.assertEqual(count_predecessors(six + ALL_TO_A, "a" * 12), 6 ** 12)
        self.assertEqual(count_predecessors(six + ALL_TO_A, "a" * 11 + "f"), 0)

    def test_the_counts_of_all_rows_of_two_colours_add_up(self):
        drill = [(5, "a", "b"), (2, "b", "a"), (7, "a", "b"), (3, "b", "a"), ("swap", "a", "b"), (1, "a", "b")]
        many = 0
        for row in rows_of(9, "ab"):
            many += count_predecessors(drill, row)
        self.assertEqual(many, 2 ** 9)


class AgainstEveryRow(unittest.TestCase):
    def assert_counts(self, drill, length):
        told = tally(drill, length)
        for row in rows_of(length, COLOURS):
            self.assertEqual(count_predecessors(drill, row), told.get(row, 0), (drill, row))

    def test_single_calls(self):
        for kind in (1, 2, 3, 4, "all", "swap"):
            for source, target in ("ab", "fa", "dc"):
                for length in range(4):
                    self.assert_counts([(kind, source, target)], length)

    def test_equal_calls_in_a_row(self):
        for call in [(1, "a", "b"), (2, "a", "b"), (3, "b", "a"), ("all", "a", "b"), ("swap", "a", "b")]:
            for times in (2, 3, 4):
                self.assert_counts([call] * times, 4)
                self.assert_counts([(1, "b", "c")] + [call] * times + [(2, "c", "a"), call], 4)

    def test_drawn_drills_on_rows_of_three(self):
        chance = random.Random("three")
        for _ in range(40):
            colours = chance.sample(COLOURS, chance.randint(2, 6))
            self.assert_counts(draw_drill(chance, colours, 3), 3)

    def test_drawn_drills_on_rows_of_five(self):
        chance = random.Random("five")
        for _ in range(8):
            drill = draw_drill(chance, chance.sample(COLOURS, chance.randint(2, 3)), 5)
            told = tally(drill, 5)
            for row in list(told)[::7] + chance.sample(rows_of(5, COLOURS), 100):
                self.assertEqual(count_predecessors(drill, row), told.get(row, 0), (drill, row))

    def test_drawn_drills_on_rows_of_twelve(self):
        # The drills name two colours only, so nobody else can have worn a or b before.
        chance = random.Random("twelve")
        for _ in range(6):
            drill = draw_drill(chance, "ab", 12)
            told = {}
            for row in rows_of(12, "ab"):
                after = model_drill(drill, row)
                told[after] = told.get(after, 0) + 1
            for row in list(told)[::90] + ["a" * 12, "b" * 12, "ab" * 6]:
                self.assertEqual(count_predecessors(drill, row), told.get(row, 0), (drill, row))


class WrongArguments(unittest.TestCase):
    def assert_raises(self, wanted, value, drill, row):
        with self.assertRaises(wanted) as raised:
            count_predecessors(drill, row)
        self.assertIs(raised.exception.__class__, wanted)
        self.assertEqual(raised.exception.value, value)

    def test_each_invalid_call_at_each_place(self):
        for drill, index in drills_with_one_fault():
            for row in ("", "abcdef"):
                self.assert_raises(BadCall, index, drill, row)

    def test_first_of_several_invalid_calls(self):
        for call in INVALID_CALLS:
            self.assert_raises(BadCall, 1, [(1, "a", "b"), call, (0, "a", "b")], "ab")

    def test_each_wrong_character_at_each_place(self):
        for row, index in rows_with_one_fault():
            for drill in ([], VALID_CALLS):
                self.assert_raises(BadRow, index, drill, row)

    def test_a_wrong_character_behind_a_row_without_predecessors(self):
        self.assert_raises(BadRow, 1, [("all", "a", "b")], "az")
        self.assert_raises(BadRow, 11, [("all", "a", "b")], "a" * 11 + "g")

    def test_first_of_several_wrong_characters(self):
        self.assert_raises(BadRow, 2, [], "abzcgz")

    def test_calls_before_the_row(self):
        for drill, index in drills_with_one_fault():
            for row in ("z", "zab"):
                self.assert_raises(BadCall, index, drill, row)


class UnchangedArguments(unittest.TestCase):
    def test_after_a_count(self):
        drill = [(1, "a", "c"), ("swap", "a", "b"), ("all", "c", "d")]
        before = copy.deepcopy(drill)
        first = count_predecessors(drill, "dbaa")
        self.assertEqual(drill, before)
        self.assertEqual(count_predecessors(drill, "dbaa"), first)

    def test_after_an_error(self):
        for drill, row in [([(1, "a", "b"), (0, "a", "b")], "ab"), ([(1, "a", "b")], "az")]:
            before = copy.deepcopy(drill)
            self.assertRaises((BadCall, BadRow), count_predecessors, drill, row)
            self.assertEqual(drill, before)

    def test_a_drill_is_not_kept(self):
        drill = [(1, "a", "b")]
        self.assertEqual(count_predecessors(drill, "bb"), 3)
        drill.append(("all", "c", "b"))
        self.assertEqual(count_predecessors(drill, "bb"), 8)
        drill.clear()
        self.assertEqual(count_predecessors(drill, "bb"), 1)


if __name__ == "__main__":
    unittest.main()
