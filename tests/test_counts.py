"""Promises 2 to 4, 7 and 12 to 14: count_colours, run_on_counts and colour_after."""

import copy
import inspect
import unittest

from drillrow import counts as counting
from drillrow.counts import colour_after, count_colours, run_on_counts
from drillrow.errors import BadCall, BadColour, BadCounts, BadRow
from tests.samples import INVALID_CALLS, VALID_CALLS, draw_samples, drills_with_one_fault

LARGE = 10 ** 30 - 1
NOT_COLOURS = ["", "ab", "bc", "abcdef", "aa", "g", "A", "z", "1", " ", "`", "a "]
# Each with the value of its error: too few or too many come before a negative one.
WRONG_COUNTS = [
    ([], None),
    ([0], None),
    ([1, 2, 3, 4, 5], None),
    ([1, 2, 3, 4, 5, 6, 7], None),
    ([0] * 12, None),
    ([-1, 2, 3, 4, 5], None),
    ([1, 2, 3, 4, 5, 6, -7], None),
    ([-1, 0, 0, 0, 0, 0], 0),
    ([5, -1, 0, 0, 0, 0], 1),
    ([5, 0, -LARGE, 0, 0, 0], 2),
    ([0, 0, 0, -2, 0, 0], 3),
    ([0, 0, 0, 0, -3, 0], 4),
    ([0, 0, 0, 0, 0, -1], 5),
    ([0, 0, -1, 0, -1, -1], 2),
    ([-1, -1, -1, -1, -1, -1], 0),
]


class Examples(unittest.TestCase):
    def test_count_colours(self):
        self.assertEqual(count_colours('abba'), [2, 2, 0, 0, 0, 0])

    def test_run_on_counts(self):
        drill = [(2, 'a', 'b'), ('all', 'b', 'c')]
        self.assertEqual(run_on_counts(drill, [2, 5, 0, 0, 0, 0]), [1, 0, 6, 0, 0, 0])

    def test_colour_after(self):
        self.assertEqual(colour_after([(2, 'a', 'b')], [1, 3, 0, 0, 0, 0], 'a'), 'b')


class Interface(unittest.TestCase):
    def test_defined_in_their_file_with_these_arguments(self):
        wanted = {
            "count_colours": ["row"],
            "run_on_counts": ["drill", "counts"],
            "colour_after": ["drill", "ahead", "colour"],
        }
        for name, arguments in wanted.items():
            found = getattr(counting, name)
            self.assertTrue(inspect.isfunction(found))
            self.assertEqual(found.__module__, "drillrow.counts")
            self.assertEqual(list(inspect.signature(found).parameters), arguments)

    def test_by_name(self):
        self.assertEqual(count_colours(row="fa"), [1, 0, 0, 0, 0, 1])
        self.assertEqual(run_on_counts(counts=[1] * 6, drill=[(1, "a", "b")]), [0, 2, 1, 1, 1, 1])
        self.assertEqual(colour_after(colour="a", ahead=[0] * 6, drill=[(1, "a", "b")]), "b")

    def test_kinds_of_values(self):
        self.assertIs(count_colours("").__class__, list)
        self.assertIs(run_on_counts([], [0] * 6).__class__, list)
        self.assertIs(colour_after([], [0] * 6, "a").__class__, str)


class CountColours(unittest.TestCase):
    def test_empty_row(self):
        self.assertEqual(count_colours(""), [0, 0, 0, 0, 0, 0])

    def test_each_colour_has_its_place(self):
        self.assertEqual(count_colours("abbcccddddeeeeeffffff"), [1, 2, 3, 4, 5, 6])

    def test_order_of_people_is_free(self):
        self.assertEqual(count_colours("fbafbf"), [1, 2, 0, 0, 0, 3])

    def test_sixty(self):
        self.assertEqual(count_colours("d" * 60), [0, 0, 0, 60, 0, 0])
        self.assertEqual(count_colours("abcdef" * 10), [10] * 6)

    def test_each_wrong_character_at_each_place(self):
        for wrong in "gzAF01`- \n":
            for index in range(7):
                with self.assertRaises(BadRow) as raised:
                    count_colours("abcdef"[:index] + wrong + "abcdef"[index:])
                self.assertEqual(raised.exception.value, index)

    def test_first_of_several_wrong_characters(self):
        with self.assertRaises(BadRow) as raised:
            count_colours("aab?b!")
        self.assertEqual(raised.exception.value, 3)


class RunOnCounts(unittest.TestCase):
    def test_numbered_call(self):
        self.assertEqual(run_on_counts([(3, "a", "b")], [3, 0, 0, 0, 0, 0]), [2, 1, 0, 0, 0, 0])
        self.assertEqual(run_on_counts([(3, "a", "b")], [4, 0, 0, 0, 0, 0]), [3, 1, 0, 0, 0, 0])
        self.assertEqual(run_on_counts([(3, "a", "b")], [2, 9, 0, 0, 0, 0]), [2, 9, 0, 0, 0, 0])
        self.assertEqual(run_on_counts([(1, "a", "b")], [0, 9, 0, 0, 0, 0]), [0, 9, 0, 0, 0, 0])

    def test_twenty(self):
        self.assertEqual(run_on_counts([(20, "f", "e")], [0, 0, 0, 0, 0, 20]), [0, 0, 0, 0, 1, 19])
        self.assertEqual(run_on_counts([(20, "f", "e")], [0, 0, 0, 0, 0, 19]), [0, 0, 0, 0, 0, 19])

    def test_all(self):
        self.assertEqual(run_on_counts([("all", "b", "d")], [1, 2, 3, 4, 5, 6]), [1, 0, 3, 6, 5, 6])

    def test_all_of_nobody(self):
        self.assertEqual(run_on_counts([("all", "b", "d")], [1, 0, 3, 4, 5, 6]), [1, 0, 3, 4, 5, 6])

    def test_swap(self):
        self.assertEqual(run_on_counts([("swap", "c", "f")], [1, 2, 3, 4, 5, 6]), [1, 2, 6, 4, 5, 3])
        self.assertEqual(run_on_counts([("swap", "f", "c")], [1, 2, 3, 4, 5, 6]), [1, 2, 6, 4, 5, 3])

    def test_swap_of_nobody(self):
        self.assertEqual(run_on_counts([("swap", "c", "f")], [1, 2, 0, 4, 5, 0]), [1, 2, 0, 4, 5, 0])
        self.assertEqual(run_on_counts([("swap", "c", "f")], [1, 2, 0, 4, 5, 6]), [1, 2, 6, 4, 5, 0])

    def test_calls_in_order(self):
        self.assertEqual(run_on_counts([(2, "a", "b"), (2, "a", "b")], [2, 0, 0, 0, 0, 0]), [1, 1, 0, 0, 0, 0])
        drill = [("all", "a", "b"), ("swap", "b", "c")]
        self.assertEqual(run_on_counts(drill, [1, 1, 0, 0, 0, 0]), [0, 0, 2, 0, 0, 0])

    def test_empty_drill(self):
        self.assertEqual(run_on_counts([], [1, 2, 3, 4, 5, 6]), [1, 2, 3, 4, 5, 6])

    def test_six_zeros(self):
        for drill in ([], VALID_CALLS, [("swap", "a", "b")], [("all", "a", "b")], [(1, "a", "b")]):
            self.assertEqual(run_on_counts(drill, [0] * 6), [0] * 6)

    def test_thirty_digits(self):
        one_moved = [LARGE - 1, LARGE + 1, 0, 0, 0, 0]
        self.assertEqual(run_on_counts([(20, "a", "b")], [LARGE, LARGE, 0, 0, 0, 0]), one_moved)
        self.assertEqual(run_on_counts([("all", "a", "b")], [LARGE] * 6), [0, 2 * LARGE] + [LARGE] * 4)
        self.assertEqual(run_on_counts([("swap", "e", "f")], [0, 0, 0, 0, LARGE, 1]), [0, 0, 0, 0, 1, LARGE])
        self.assertEqual(run_on_counts([(LARGE, "a", "b")], [LARGE, 0, 0, 0, 0, 0]), [LARGE - 1, 1, 0, 0, 0, 0])
        self.assertEqual(run_on_counts([(LARGE, "a", "b")], [LARGE - 1, 0, 0, 0, 0, 0]), [LARGE - 1, 0, 0, 0, 0, 0])


class ColourAfter(unittest.TestCase):
    def test_numbered_call_reaches_one_person(self):
        for number, wanted in [(1, "a"), (2, "a"), (3, "b"), (4, "a"), (20, "a")]:
            self.assertEqual(colour_after([(number, "a", "b")], [2, 9, 1, 0, 0, 0], "a"), wanted)

    def test_numbered_call_of_another_colour(self):
        self.assertEqual(colour_after([(3, "a", "b")], [2, 2, 2, 2, 2, 2], "b"), "b")
        self.assertEqual(colour_after([(3, "a", "b")], [2, 2, 2, 2, 2, 2], "c"), "c")

    def test_twenty(self):
        self.assertEqual(colour_after([(20, "a", "b")], [19, 0, 0, 0, 0, 0], "a"), "b")
        self.assertEqual(colour_after([(20, "a", "b")], [20, 0, 0, 0, 0, 0], "a"), "a")
        self.assertEqual(colour_after([(20, "a", "b")], [18, 0, 0, 0, 0, 0], "a"), "a")

    def test_all_and_swap(self):
        for ahead in ([0] * 6, [5] * 6, [LARGE] * 6):
            for colour, after_all, after_swap in [("a", "b", "b"), ("b", "b", "a"), ("c", "c", "c")]:
                self.assertEqual(colour_after([("all", "a", "b")], ahead, colour), after_all)
                self.assertEqual(colour_after([("swap", "a", "b")], ahead, colour), after_swap)

    def test_counts_ahead_change_between_calls(self):
        # The first call takes the person ahead out of the way of the second one.
        self.assertEqual(colour_after([(1, "a", "b")] * 2, [1, 0, 0, 0, 0, 0], "a"), "b")
        # After the swap nobody ahead wears b any more.
        self.assertEqual(colour_after([("swap", "b", "c"), (1, "b", "d")], [0, 3, 0, 0, 0, 0], "c"), "d")
        self.assertEqual(colour_after([("all", "c", "b"), (4, "b", "d")], [0, 1, 2, 0, 0, 0], "b"), "d")

    def test_the_person_is_not_among_those_ahead(self):
        # The person leaves a, and the counts ahead stay as they were.
        self.assertEqual(colour_after([(1, "a", "b"), (1, "b", "c")], [0] * 6, "a"), "c")

    def test_empty_drill(self):
        for colour in "abcdef":
            self.assertEqual(colour_after([], [1, 2, 3, 4, 5, 6], colour), colour)

    def test_six_zeros(self):
        for colour in "bcdef":
            self.assertEqual(colour_after([(1, colour, "a")], [0] * 6, colour), "a")
            self.assertEqual(colour_after([(2, colour, "a")], [0] * 6, colour), colour)

    def test_thirty_digits(self):
        self.assertEqual(colour_after([(LARGE, "a", "b")], [LARGE - 1, 0, 0, 0, 0, 0], "a"), "b")
        self.assertEqual(colour_after([(LARGE, "a", "b")], [LARGE, 0, 0, 0, 0, 0], "a"), "a")
        self.assertEqual(colour_after([("all", "b", "a"), (1, "a", "c")], [LARGE] * 6, "b"), "a")


class WrongArguments(unittest.TestCase):
    def assert_raises(self, wanted, value, function, *arguments):
        with self.assertRaises(wanted) as raised:
            function(*arguments)
        self.assertIs(raised.exception.__class__, wanted)
        self.assertEqual(raised.exception.value, value)

    def test_each_invalid_call_at_each_place(self):
        for drill, index in drills_with_one_fault():
            with self.subTest(drill=drill):
                self.assert_raises(BadCall, index, run_on_counts, drill, [1] * 6)
                self.assert_raises(BadCall, index, colour_after, drill, [1] * 6, "a")

    def test_first_of_several_invalid_calls(self):
        for call in INVALID_CALLS:
            drill = [(1, "a", "b"), call, (0, "a", "b")]
            self.assert_raises(BadCall, 1, run_on_counts, drill, [1] * 6)
            self.assert_raises(BadCall, 1, colour_after, drill, [1] * 6, "a")

    def test_each_wrong_counts(self):
        for counts, value in WRONG_COUNTS:
            for drill in ([], VALID_CALLS):
                with self.subTest(counts=counts):
                    self.assert_raises(BadCounts, value, run_on_counts, drill, counts)
                    self.assert_raises(BadCounts, value, colour_after, drill, counts, "a")

    def test_each_wrong_colour(self):
        for colour in NOT_COLOURS:
            for drill in ([], VALID_CALLS):
                with self.subTest(colour=colour):
                    self.assert_raises(BadColour, colour, colour_after, drill, [1] * 6, colour)

    def test_calls_before_counts(self):
        for counts, _ in WRONG_COUNTS:
            drill = [(1, "a", "b"), ("all", "c", "c")]
            self.assert_raises(BadCall, 1, run_on_counts, drill, counts)
            self.assert_raises(BadCall, 1, colour_after, drill, counts, "a")

    def test_calls_before_the_colour(self):
        for colour in NOT_COLOURS:
            self.assert_raises(BadCall, 1, colour_after, [(1, "a", "b"), (0, "a", "b")], [0] * 6, colour)

    def test_counts_before_the_colour(self):
        for counts, value in WRONG_COUNTS:
            self.assert_raises(BadCounts, value, colour_after, VALID_CALLS, counts, "ab")

    def test_all_three(self):
        self.assert_raises(BadCall, 0, colour_after, [("none", "a", "b")], [-1], "")


class UnchangedArguments(unittest.TestCase):
    def test_after_each_function(self):
        drill = [(1, "a", "c"), ("swap", "a", "b"), ("all", "c", "d")]
        counts = [3, 1, 2, 0, 0, 4]
        before = copy.deepcopy((drill, counts))
        for times in range(2):
            self.assertEqual(run_on_counts(drill, counts), [1, 2, 0, 3, 0, 4])
            self.assertEqual((drill, counts), before)
            self.assertEqual(colour_after(drill, counts, "a"), "b")
            self.assertEqual((drill, counts), before)

    def test_after_an_error(self):
        wrong = [
            ([(1, "a", "b"), (0, "a", "b")], [1, 0, 0, 0, 0, 0], "a"),
            ([(1, "a", "b")], [1, 0, 0, 0, 0, -1], "a"),
            ([(1, "a", "b")], [1, 0, 0, 0, 0], "a"),
            ([(1, "a", "b")], [1, 0, 0, 0, 0, 0], "z"),
        ]
        for drill, counts, colour in wrong:
            before = copy.deepcopy((drill, counts))
            self.assertRaises(ValueError, colour_after, drill, counts, colour)
            self.assertEqual((drill, counts), before)
        for drill, counts, _ in wrong[:3]:
            before = copy.deepcopy((drill, counts))
            self.assertRaises(ValueError, run_on_counts, drill, counts)
            self.assertEqual((drill, counts), before)

    def test_a_returned_list_is_free(self):
        first = count_colours("ab")
        first[0] = 9
        first.append(7)
        self.assertEqual(count_colours("ab"), [1, 1, 0, 0, 0, 0])
        for drill in ([], [(9, "a", "b")], [("all", "f", "e")], [(1, "a", "b")]):
            counts = [2, 0, 0, 0, 0, 0]
            told = run_on_counts(drill, counts)
            wanted = list(told)
            self.assertIsNot(told, counts)
            told[0] = 99
            told.clear()
            self.assertEqual(counts, [2, 0, 0, 0, 0, 0])
            self.assertEqual(run_on_counts(drill, counts), wanted)

    def test_passed_lists_are_not_kept(self):
        drill = [(1, "a", "b")]
        counts = [1, 0, 0, 0, 0, 0]
        told = run_on_counts(drill, counts)
        counts[0] = 50
        drill.append(("all", "b", "c"))
        self.assertEqual(told, [0, 1, 0, 0, 0, 0])
        self.assertEqual(run_on_counts(drill, counts), [49, 0, 1, 0, 0, 0])
        self.assertEqual(colour_after(drill, counts, "b"), "c")


class CountsOfRows(unittest.TestCase):
    def test_count_colours_on_samples(self):
        for _, row in draw_samples("count", 300):
            self.assertEqual(count_colours(row), [row.count(colour) for colour in "abcdef"])


if __name__ == "__main__":
    unittest.main()
