"""Promises 2, 3 and 20: parting_row."""

import copy
import inspect
import itertools
import random
import unittest

from drillrow import comparing
from drillrow.comparing import parting_row
from drillrow.counts import colour_after
from drillrow.errors import BadCall
from tests.samples import (
    COLOURS, INVALID_CALLS, VALID_CALLS, draw_call, drills_with_one_fault, model_drill, rows_up_to,
)

# Pairs that part on no row.
SAME = [
    ([], []),
    ([("swap", "a", "b")], [("swap", "b", "a")]),
    ([("swap", "a", "b"), ("swap", "a", "b")], []),
    ([("all", "a", "b"), ("all", "b", "a")], [("all", "b", "a")]),
    ([("all", "a", "b")], [("all", "a", "b"), (1, "a", "b")]),
    ([("all", "a", "b")], [(1, "a", "b"), ("all", "a", "b")]),
    ([("all", "a", "b")], [("swap", "a", "b"), ("all", "a", "b")]),
    ([("all", "a", "b"), (4, "a", "c")], [("all", "a", "b")]),
    ([(2, "a", "b"), (1, "a", "b")], [(1, "a", "b"), (1, "a", "b")]),
    ([(4, "a", "b"), (3, "a", "b"), (2, "a", "b"), (1, "a", "b")], [(1, "a", "b")] * 4),
    ([("swap", "d", "e"), (3, "e", "f")], [(3, "d", "f"), ("swap", "e", "d")]),
    ([(4, "a", "b"), (4, "c", "b"), (4, "a", "b")], [(4, "c", "b"), (4, "a", "b"), (4, "a", "b")]),
    ([(3, "a", "b")] * 2, [(4, "a", "b"), (3, "a", "b")]),
    ([("swap", "a", "b")] * 4, [("swap", "a", "c")] * 2),
    ([("swap", "a", "b")] * 3, [("swap", "b", "a")]),
    ([("all", "a", "b")] * 3, [("all", "a", "b")]),
]

# Each with its row: they part late.
LATE = [
    ([(1, "a", "b")], [("all", "a", "b")], "aa"),
    ([(4, "a", "b")], [], "aaaa"),
    ([(1, "a", "b")] * 4, [("all", "a", "b")], "aaaaa"),
    ([(4, "a", "b")] * 4, [(4, "a", "b")] * 3, "aaaaaaa"),
    ([(2, "a", "b")] * 2, [(2, "a", "b"), (3, "a", "b")], "aaa"),
    ([(4, "a", "b")], [(4, "a", "c")], "aaaa"),
    ([(1, "a", "b")] * 3 + [(4, "a", "b")], [(1, "a", "b")] * 3, "aaaaaaa"),
    ([(2, "c", "d"), (2, "e", "d"), (4, "e", "c"), (4, "c", "e")],
     [(2, "c", "d"), (2, "e", "d"), (4, "c", "e"), (4, "e", "c")], "ccccceeee"),
    ([(1, "c", "d"), (4, "b", "c"), (4, "c", "b"), (4, "b", "c")],
     [(1, "c", "d"), (4, "c", "b"), (4, "b", "c"), (4, "b", "c")], "bbbbbcccc"),
    ([(1, "f", "b"), (4, "f", "b"), (4, "e", "f"), (2, "b", "f")],
     [(1, "f", "b"), (4, "e", "f"), (4, "f", "b"), (2, "b", "f")], "beeeeffff"),
]

# No number of the bounds of this file tells higher counts of a colour apart, with some to spare.
HIGHEST_COUNT = 9


def named_colours(first, second):
    """Return the colours that two drills name, in order."""
    return sorted({colour for call in first + second for colour in call[1:]})


def search_rows(first, second, colours, longest):
    """Return the first row that the model treats differently, trying all rows in order, or None."""
    for row in rows_up_to(longest, colours):
        if model_drill(first, row) != model_drill(second, row):
            return row
    return None


def search_counts(first, second):
    """Return the parting row by trying all counts ahead of a person, or None."""
    colours = named_colours(first, second)
    found = []
    for numbers in itertools.product(range(HIGHEST_COUNT + 1), repeat=len(colours)):
        worn = dict(zip(colours, numbers))
        ahead = [worn.get(colour, 0) for colour in COLOURS]
        for colour in colours:
            if colour_after(first, ahead, colour) != colour_after(second, ahead, colour):
                row = "".join(other * worn[other] for other in colours) + colour
                found.append((len(row), row))
    return min(found)[1] if found else None


def draw_drill(chance, colours):
    """Draw a drill within the bounds of this file."""
    return [draw_call(chance, colours, 4) for _ in range(chance.randint(0, 4))]


def change_drill(chance, drill):
    """Return a drill that is nearly the same: one call away, two in turn, or another kind."""
    drill = list(drill)
    if drill:
        index = chance.randrange(len(drill))
        change = chance.randrange(3)
        if change == 0:
            drill.pop(index)
        elif change == 1:
            drill.insert(0, drill.pop(index))
        else:
            drill[index] = (chance.choice([1, 2, 3, 4, "all", "swap"]), *drill[index][1:])
    return drill


def draw_pairs(seed, many):
    """Draw pairs of drills that use at most three colours together."""
    chance = random.Random(seed)
    pairs = []
    for _ in range(many):
        colours = chance.sample(COLOURS, chance.randint(2, 3))
        first = draw_drill(chance, colours)
        second = chance.choice([draw_drill(chance, colours), change_drill(chance, first)])
        pairs.append((first, second))
    return pairs


class Examples(unittest.TestCase):
    def test_the_example(self):
        self.assertEqual(parting_row([(1, 'a', 'b')], [('all', 'a', 'b')]), 'aa')


class Interface(unittest.TestCase):
    def test_defined_in_its_file_with_these_arguments(self):
        self.assertTrue(inspect.isfunction(comparing.parting_row))
        self.assertEqual(comparing.parting_row.__module__, "drillrow.comparing")
        self.assertEqual(list(inspect.signature(parting_row).parameters), ["first", "second"])

    def test_by_name(self):
        self.assertEqual(parting_row(second=[("all", "a", "b")], first=[(1, "a", "b")]), "aa")
        self.assertEqual(parting_row([(1, "a", "b")], second=[]), "a")

    def test_kind_of_value(self):
        self.assertIs(parting_row([(1, "a", "b")], []).__class__, str)
        self.assertIs(parting_row([], []), None)


class DrillsThatAgree(unittest.TestCase):
    def test_pairs_that_agree(self):
        for first, second in SAME:
            with self.subTest(first=first, second=second):
                self.assertIs(parting_row(first, second), None)
                self.assertIs(parting_row(second, first), None)

    def test_a_drill_and_itself(self):
        for first, second in draw_pairs("itself", 200):
            self.assertIs(parting_row(first, first), None)
            self.assertIs(parting_row(second, list(second)), None)

    def test_the_longest_search(self):
        # Twelve numbers of three colours to count to, and nothing to find.
        drill = [(4, "a", "b"), (4, "b", "c"), (4, "c", "a"), (3, "a", "c")]
        self.assertIs(parting_row(drill, list(drill)), None)


class DrillsThatPart(unittest.TestCase):
    def test_on_a_row_of_one_person(self):
        self.assertEqual(parting_row([(1, "a", "b")], []), "a")
        self.assertEqual(parting_row([], [(1, "b", "a")]), "b")
        self.assertEqual(parting_row([("all", "a", "b")], [("all", "b", "a")]), "a")
        self.assertEqual(parting_row([("swap", "a", "b")], [("all", "a", "b")]), "b")
        self.assertEqual(parting_row([("swap", "a", "c"), ("all", "a", "b")], [("all", "c", "b")]), "a")

    def test_on_a_row_of_one_person_only(self):
        # The first one of a row is the only one whom these treat differently.
        first, second = [(1, "a", "b"), ("all", "a", "b")], [(1, "a", "c"), ("all", "a", "b")]
        self.assertEqual(parting_row(first, second), "a")
        for row in rows_up_to(4, "abc"):
            index = row.find("a")
            one, other = model_drill(first, row), model_drill(second, row)
            differing = [place for place in range(len(row)) if one[place] != other[place]]
            self.assertEqual(differing, [index] if index >= 0 else [])

    def test_each_colour(self):
        for source, target in itertools.permutations(COLOURS, 2):
            self.assertEqual(parting_row([(2, source, target)], [("all", source, target)]), source)
            self.assertEqual(parting_row([(2, source, target)], []), source * 2)
            self.assertEqual(parting_row([], [("swap", source, target)]), min(source, target))

    def test_rows_of_several_people(self):
        for first, second, row in LATE:
            with self.subTest(row=row):
                self.assertEqual(parting_row(first, second), row)
                self.assertEqual(parting_row(second, first), row)
                self.assertNotEqual(model_drill(first, row), model_drill(second, row))

    def test_first_in_string_order(self):
        self.assertEqual(parting_row([("swap", "a", "c")], []), "a")
        self.assertEqual(parting_row([(1, "c", "b")], [(1, "b", "c")]), "b")
        # Every row of three who wear e or f parts these.
        first, second = [("all", "e", "f"), (3, "f", "d")], [("all", "e", "f")]
        self.assertEqual(parting_row(first, second), "eee")
        first, second = [("all", "f", "e"), (3, "e", "d")], [("all", "f", "e")]
        self.assertEqual(parting_row(first, second), "eee")

    def test_against_all_rows_in_order(self):
        for first, second in draw_pairs("rows", 400):
            found = parting_row(first, second)
            searched = search_rows(first, second, named_colours(first, second), 5)
            if found is None or len(found) > 5:
                self.assertIs(searched, None, (first, second))
            else:
                self.assertEqual(found, searched, (first, second))

    def test_against_all_rows_of_six_colours(self):
        for first, second in draw_pairs("six", 100):
            found = parting_row(first, second)
            searched = search_rows(first, second, COLOURS, 3)
            if found is None or len(found) > 3:
                self.assertIs(searched, None, (first, second))
            else:
                self.assertEqual(found, searched, (first, second))

    def test_against_all_counts(self):
        for first, second in [pair[:2] for pair in LATE] + SAME + draw_pairs("counts", 60):
            self.assertEqual(parting_row(first, second), search_counts(first, second), (first, second))


class WrongArguments(unittest.TestCase):
    def assert_raises(self, value, first, second):
        with self.assertRaises(BadCall) as raised:
            parting_row(first, second)
        self.assertIs(raised.exception.__class__, BadCall)
        self.assertEqual(raised.exception.value, value)

    def test_each_invalid_call_at_each_place(self):
        for drill, index in drills_with_one_fault():
            for other in ([], VALID_CALLS, [(1, "a", "b")]):
                self.assert_raises(index, drill, other)
                self.assert_raises(index, other, drill)

    def test_first_of_several_invalid_calls(self):
        for call in INVALID_CALLS:
            drill = [(1, "a", "b"), call, (0, "a", "b")]
            self.assert_raises(1, drill, [])
            self.assert_raises(1, [], drill)

    def test_the_first_drill_before_the_second_one(self):
        for call in INVALID_CALLS:
            self.assert_raises(2, VALID_CALLS[:2] + [call], [call])
            self.assert_raises(0, [call], VALID_CALLS[:2] + [call])

    def test_an_invalid_call_behind_the_parting(self):
        self.assert_raises(1, [(1, "a", "b"), (1, "a", "a")], [])
        self.assert_raises(1, [(1, "b", "a")], [(1, "a", "b"), (0, "a", "b")])

    def test_the_same_invalid_drill_twice(self):
        drill = [(1, "a", "b"), ("none", "a", "b")]
        self.assert_raises(1, drill, drill)


class UnchangedArguments(unittest.TestCase):
    def test_after_a_comparison(self):
        for first, second in SAME + [pair[:2] for pair in LATE]:
            before = copy.deepcopy((first, second))
            told = parting_row(first, second)
            self.assertEqual((first, second), before)
            self.assertEqual(parting_row(first, second), told)

    def test_after_an_error(self):
        first, second = [(1, "a", "b"), ("all", "b", "a")], [(1, "a", "b"), (0, "a", "b")]
        before = copy.deepcopy((first, second))
        self.assertRaises(BadCall, parting_row, first, second)
        self.assertRaises(BadCall, parting_row, second, first)
        self.assertEqual((first, second), before)

    def test_drills_are_not_kept(self):
        first, second = [(1, "a", "b")], [(1, "a", "b")]
        self.assertIs(parting_row(first, second), None)
        first.append((1, "a", "b"))
        self.assertEqual(parting_row(first, second), "aa")
        second.clear()
        self.assertEqual(parting_row(first, second), "a")
        first.clear()
        self.assertIs(parting_row(first, second), None)


if __name__ == "__main__":
    unittest.main()
