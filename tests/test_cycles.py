"""Promises 2, 3, 8, 10 and 15 to 18: repeat_drill, find_cycle, seat_map and seat_rings."""

import copy
import inspect
import itertools
import random
import unittest

from drillrow import cycles
from drillrow.calls import run_drill
from drillrow.cycles import find_cycle, repeat_drill, seat_map, seat_rings
from drillrow.errors import BadCall, BadRow, BadTimes
from tests.samples import (
    COLOURS, INVALID_CALLS, VALID_CALLS, draw_samples, drills_with_one_fault, model_drill,
    model_walk, rows_up_to, rows_with_one_fault,
)

EXAMPLE = [(1, 'a', 'c'), (1, 'b', 'a'), (1, 'c', 'b')]
MOST = 10 ** 30 - 1
# Each with its drill, its row, its start and its period: a period for each divisor of 60.
CYCLES = [
    ([(2, "a", "b")], "a", 0, 1),
    ([("all", "b", "a")], "b", 1, 1),
    ([("swap", "a", "d")], "a", 0, 2),
    ([("swap", "a", "c"), ("swap", "c", "b")], "c", 0, 3),
    ([("swap", "a", "c"), ("swap", "a", "d"), ("swap", "b", "c")], "a", 0, 4),
    ([("swap", "a", "e"), ("swap", "b", "e"), ("swap", "e", "d"), ("swap", "e", "c")], "e", 0, 5),
    ([("swap", "b", "c"), ("swap", "f", "d"), ("swap", "a", "b")], "fb", 0, 6),
    ([("swap", "d", "b"), ("swap", "f", "a"), ("swap", "f", "b"), ("swap", "e", "a"), (1, "a", "f")], "fda", 1, 10),
    ([("swap", "b", "c"), ("swap", "c", "d"), ("swap", "b", "a"), (1, "b", "d")], "cadd", 0, 12),
    ([("swap", "a", "b"), ("swap", "b", "d"), ("swap", "e", "c"), (1, "b", "c"), ("swap", "c", "b")], "bbcb", 10, 15),
    ([("swap", "c", "a"), ("swap", "a", "e"), ("swap", "d", "a"), (1, "d", "a"), ("swap", "b", "e")], "bceaa", 0, 20),
    (
        [("swap", "c", "a"), ("swap", "c", "f"), ("swap", "e", "a"), ("swap", "c", "d"), ("swap", "d", "b"),
         (1, "a", "f")],
        "ececad", 25, 30,
    ),
    (
        [(1, "c", "a"), ("swap", "b", "e"), ("swap", "d", "b"), ("swap", "c", "a"), ("swap", "e", "c"),
         (1, "b", "a")],
        "dddeeaee", 14, 60,
    ),
    (
        [("swap", "f", "e"), ("swap", "f", "b"), (1, "d", "b"), (1, "e", "b"), (1, "d", "b"), (1, "d", "e"),
         ("swap", "d", "f"), ("swap", "c", "f")],
        "ffdddfbdccecccdfdebffccefcfdeddfeccdfebbdbcceedcfebebbbccfed", 12, 60,
    ),
    (
        [(3, "b", "a"), (1, "f", "e"), ("swap", "c", "b"), (1, "e", "b"), ("swap", "d", "f"), ("swap", "b", "e"),
         ("swap", "c", "d"), (1, "d", "f")],
        "ddadddddddddddddbdddddddddcddddddddddddddddcdddddddddddddddd", 275, 10,
    ),
]


def list_seats(row):
    """Return the seat of each person, in the words of the document."""
    seats = []
    for index, person in enumerate(row):
        ahead = [other for other in row[:index] if other == person]
        seats.append((person, len(ahead)))
    return seats


def model_map(drill, row):
    """Return the seat map as a list of pairs, from runs one after the other."""
    rows, start = model_walk(drill, row)
    pairs = []
    for before in rows[start:]:
        pairs.extend(zip(list_seats(before), list_seats(model_drill(drill, before))))
    return sorted(set(pairs))


def cycle_samples():
    """Return pairs (drill, row) of all kinds: the fixed ones, small rows and drawn ones."""
    samples = [(drill, row) for drill, row, _, _ in CYCLES]
    samples += [(EXAMPLE, row) for row in rows_up_to(4, "abc")]
    return samples + draw_samples("cycles", 400)


class Examples(unittest.TestCase):
    def test_repeat_drill(self):
        drill = [(1, 'a', 'c'), (1, 'b', 'a'), (1, 'c', 'b')]
        self.assertEqual(repeat_drill(drill, 'aa', 10 ** 29), 'ab')

    def test_rows_of_the_example(self):
        told = [repeat_drill(EXAMPLE, 'aa', times) for times in range(5)]
        self.assertEqual(told, ['aa', 'ba', 'ab', 'ba', 'ab'])

    def test_find_cycle(self):
        drill = [(1, 'a', 'c'), (1, 'b', 'a'), (1, 'c', 'b')]
        self.assertEqual(find_cycle(drill, 'aa'), (1, 2))

    def test_seat_map(self):
        drill = [(1, 'a', 'c'), (1, 'b', 'a'), (1, 'c', 'b')]
        self.assertEqual(seat_map(drill, 'a'), [(('a', 0), ('b', 0)), (('b', 0), ('a', 0))])

    def test_seat_rings(self):
        drill = [(1, 'a', 'c'), (1, 'b', 'a'), (1, 'c', 'b')]
        self.assertEqual(seat_rings(drill, 'aa'), [[('a', 0), ('b', 0)]])


class Interface(unittest.TestCase):
    def test_defined_in_their_file_with_these_arguments(self):
        wanted = {
            "repeat_drill": ["drill", "row", "times"],
            "find_cycle": ["drill", "row"],
            "seat_map": ["drill", "row"],
            "seat_rings": ["drill", "row"],
        }
        for name, arguments in wanted.items():
            found = getattr(cycles, name)
            self.assertTrue(inspect.isfunction(found))
            self.assertEqual(found.__module__, "drillrow.cycles")
            self.assertEqual(list(inspect.signature(found).parameters), arguments)

    def test_by_name(self):
        self.assertEqual(repeat_drill(times=3, row="aa", drill=EXAMPLE), "ba")
        self.assertEqual(repeat_drill(EXAMPLE, "aa", times=3), "ba")
        self.assertEqual(find_cycle(row="aa", drill=EXAMPLE), (1, 2))
        self.assertEqual(seat_map(row="a", drill=EXAMPLE), [(("a", 0), ("b", 0)), (("b", 0), ("a", 0))])
        self.assertEqual(seat_rings(row="aa", drill=EXAMPLE), [[("a", 0), ("b", 0)]])

    def test_kinds_of_values(self):
        for drill in ([], EXAMPLE):
            for row in ("", "abc"):
                self.assertIs(repeat_drill(drill, row, 5).__class__, str)
                found = find_cycle(drill, row)
                self.assertIs(found.__class__, tuple)
                self.assertEqual([number.__class__ for number in found], [int, int])
                self.assertIs(seat_map(drill, row).__class__, list)
                self.assertIs(seat_rings(drill, row).__class__, list)

    def test_kinds_within_the_lists(self):
        for pair in seat_map(EXAMPLE, "abca"):
            self.assertIs(pair.__class__, tuple)
            for seat in pair:
                self.assertEqual((seat.__class__, seat[0].__class__, seat[1].__class__), (tuple, str, int))
        for ring in seat_rings(EXAMPLE, "abca"):
            self.assertIs(ring.__class__, list)
            self.assertTrue(all(seat.__class__ is tuple for seat in ring))


class RepeatDrill(unittest.TestCase):
    def test_no_runs(self):
        for drill, row in cycle_samples():
            self.assertEqual(repeat_drill(drill, row, 0), row)

    def test_one_after_the_other(self):
        for drill, row in cycle_samples():
            rows, start = model_walk(drill, row)
            wanted = row
            for times in range(min(3 * len(rows) - 2 * start + 2, 200)):
                self.assertEqual(repeat_drill(drill, row, times), wanted, (drill, row, times))
                wanted = run_drill(drill, wanted)

    def test_around_the_start_of_each_cycle(self):
        for drill, row, start, period in CYCLES:
            rows = [row]
            for _ in range(start + 2 * period + 2):
                rows.append(run_drill(drill, rows[-1]))
            for times in range(max(0, start - 2), len(rows)):
                self.assertEqual(repeat_drill(drill, row, times), rows[times], (drill, row, times))

    def test_very_many_runs(self):
        for drill, row in cycle_samples():
            far = row
            for _ in range(300):
                far = run_drill(drill, far)
            rows = [far]
            for _ in range(60):
                rows.append(run_drill(drill, rows[-1]))
            self.assertEqual(rows[60], far)
            for times in [MOST, MOST - 1, MOST - 29, 10 ** 29, 7 * 10 ** 15 + 4]:
                self.assertEqual(repeat_drill(drill, row, times), rows[(times - 300) % 60], (drill, row, times))

    def test_runs_add_up(self):
        chance = random.Random("add up")
        for drill, row in draw_samples("halves", 100):
            first, second = chance.randrange(10 ** 30), chance.randrange(10 ** 30)
            half = repeat_drill(drill, row, first)
            self.assertEqual(repeat_drill(drill, half, second), repeat_drill(drill, row, first + second))

    def test_empty_drill_and_empty_row(self):
        for times in (0, 1, 60, MOST):
            self.assertEqual(repeat_drill([], "fedcba", times), "fedcba")
            self.assertEqual(repeat_drill([], "", times), "")
            self.assertEqual(repeat_drill(VALID_CALLS, "", times), "")

    def test_more_than_the_wearers(self):
        self.assertEqual(repeat_drill([(3, "a", "b")], "aba", MOST), "aba")
        self.assertEqual(repeat_drill([(2, "a", "b")], "aba", MOST), "abb")
        self.assertEqual(repeat_drill([(20, "a", "b")], "a" * 60, MOST), "a" * 19 + "b" * 41)

    def test_one_run_too_few(self):
        row = "a" * 60
        for times in (58, 59, 60, 61):
            self.assertEqual(repeat_drill([(1, "a", "b")], row, times), ("b" * times + row)[:60])

    def test_a_very_long_drill(self):
        drill = [(1, "a", "b"), (1, "b", "a"), (1, "b", "a")] * 600
        row = "b" * 30 + "a" * 30
        rows, start = model_walk(drill, row)
        self.assertEqual(find_cycle(drill, row), (start, len(rows) - start))
        self.assertEqual([repeat_drill(drill, row, times) for times in range(len(rows))], rows)
        self.assertEqual(repeat_drill([(1, "a", "b")] * 59, "a" * 60, 1), "b" * 59 + "a")


class FindCycle(unittest.TestCase):
    def test_fixed_cycles(self):
        for drill, row, start, period in CYCLES:
            with self.subTest(start=start, period=period):
                self.assertEqual(find_cycle(drill, row), (start, period))

    def test_the_fixed_cycles_have_every_period(self):
        wanted = [period for period in range(1, 61) if 60 % period == 0]
        self.assertEqual(sorted({period for _, _, _, period in CYCLES}), wanted)

    def test_against_runs_one_after_the_other(self):
        for drill, row in cycle_samples():
            rows, start = model_walk(drill, row)
            self.assertEqual(find_cycle(drill, row), (start, len(rows) - start), (drill, row))

    def test_empty_row(self):
        for drill in ([], VALID_CALLS, EXAMPLE, [("swap", "a", "b")]):
            self.assertEqual(find_cycle(drill, ""), (0, 1))

    def test_empty_drill(self):
        for row in ("", "a", "fedcba", "abcdef" * 10):
            self.assertEqual(find_cycle([], row), (0, 1))

    def test_from_within_the_cycle(self):
        for drill, row in cycle_samples():
            rows, start = model_walk(drill, row)
            for later in rows[start:start + 3]:
                self.assertEqual(find_cycle(drill, later), (0, len(rows) - start))

    def test_several_runs_before_the_cycle(self):
        for length in (1, 2, 7, 60):
            self.assertEqual(find_cycle([(1, "a", "b")], "a" * length), (length, 1))

    def test_more_than_the_wearers(self):
        self.assertEqual(find_cycle([(4, "a", "b")], "abaab"), (0, 1))
        self.assertEqual(find_cycle([(3, "a", "b")], "abaab"), (1, 1))
        self.assertEqual(find_cycle([(20, "a", "b"), (20, "c", "a")], "ac" * 19), (0, 1))

    def test_the_period_divides_60(self):
        for drill, row in draw_samples("divides", 600):
            _, period = find_cycle(drill, row)
            self.assertEqual(60 % period, 0, (drill, row))


class SeatMap(unittest.TestCase):
    def test_small_maps(self):
        self.assertEqual(seat_map([], "aba"), [
            (("a", 0), ("a", 0)), (("a", 1), ("a", 1)), (("b", 0), ("b", 0)),
        ])
        self.assertEqual(seat_map([("swap", "a", "b")], "aab"), [
            (("a", 0), ("b", 0)), (("a", 1), ("b", 1)), (("b", 0), ("a", 0)), (("b", 1), ("a", 1)),
        ])
        self.assertEqual(seat_map([("swap", "a", "b"), ("swap", "b", "c")], "a"), [
            (("a", 0), ("c", 0)), (("b", 0), ("a", 0)), (("c", 0), ("b", 0)),
        ])

    def test_empty_row(self):
        for drill in ([], VALID_CALLS, EXAMPLE):
            self.assertEqual(seat_map(drill, ""), [])

    def test_only_seats_of_the_cycle(self):
        # On the way into the cycle people wear a.
        self.assertEqual(seat_map([("all", "a", "b")], "aa"), [(("b", 0), ("b", 0)), (("b", 1), ("b", 1))])
        self.assertEqual(seat_map([(1, "a", "b")], "aba"), [
            (("b", 0), ("b", 0)), (("b", 1), ("b", 1)), (("b", 2), ("b", 2)),
        ])

    def test_numbers_beyond_nine_are_sorted_as_numbers(self):
        wanted = [(("a", number), ("a", number)) for number in range(60)]
        self.assertEqual(seat_map([], "a" * 60), wanted)

    def test_against_runs_one_after_the_other(self):
        for drill, row in cycle_samples():
            self.assertEqual(seat_map(drill, row), model_map(drill, row), (drill, row))

    def test_each_person_follows_the_map(self):
        for drill, row in draw_samples("follow", 100):
            following = dict(seat_map(drill, row))
            row = repeat_drill(drill, row, MOST)
            for _ in range(4):
                after = run_drill(drill, row)
                self.assertEqual([following[seat] for seat in list_seats(row)], list_seats(after), (drill, row))
                row = after

    def test_one_next_seat_for_each_seat(self):
        for drill, row in cycle_samples():
            pairs = seat_map(drill, row)
            seats, following = [list(side) for side in zip(*pairs)] if pairs else ([], [])
            self.assertEqual(seats, sorted(set(seats)))
            self.assertEqual(sorted(following), seats)

    def test_the_map_belongs_to_the_drill(self):
        chance = random.Random("one map")
        for drill, _ in draw_samples("maps", 60):
            forward, backward = {}, {}
            for _ in range(12):
                row = "".join(chance.choices(COLOURS, k=chance.choice([1, 4, 12, 40])))
                for seat, following in seat_map(drill, row):
                    self.assertEqual(forward.setdefault(seat, following), following, (drill, row))
                    self.assertEqual(backward.setdefault(following, seat), seat, (drill, row))


class SeatRings(unittest.TestCase):
    def test_rings_of_each_length(self):
        swaps = [("swap", one, other) for one, other in zip(COLOURS, COLOURS[1:])]
        for length in range(1, 7):
            ring = [("a", 0)] + [(colour, 0) for colour in reversed(COLOURS[1:length])]
            self.assertEqual(seat_rings(swaps[:length - 1], "a"), [ring])
            higher = [(colour, 1) for colour, _ in ring]
            self.assertEqual(seat_rings(swaps[:length - 1], "aa"), [ring, higher])

    def test_several_rings_are_sorted(self):
        self.assertEqual(seat_rings([], "bab"), [[("a", 0)], [("b", 0)], [("b", 1)]])
        self.assertEqual(seat_rings([("swap", "b", "c"), ("swap", "f", "d"), ("swap", "a", "b")], "fb"), [
            [("a", 0), ("b", 0), ("c", 0)], [("d", 0), ("f", 0)],
        ])
        self.assertEqual(seat_rings([], "a" * 12), [[("a", number)] for number in range(12)])

    def test_the_smallest_seat_comes_first_whoever_the_row_begins_with(self):
        for row in ("c", "b", "a"):
            self.assertEqual(
                seat_rings([("swap", "a", "b"), ("swap", "b", "c")], row), [[("a", 0), ("c", 0), ("b", 0)]])

    def test_empty_row(self):
        for drill in ([], VALID_CALLS, EXAMPLE):
            self.assertEqual(seat_rings(drill, ""), [])

    def test_the_rings_are_those_of_the_map(self):
        for drill, row in cycle_samples():
            rings = seat_rings(drill, row)
            pairs = []
            for ring in rings:
                self.assertEqual(ring[0], min(ring), (drill, row))
                pairs.extend(zip(ring, ring[1:] + ring[:1]))
            self.assertEqual(rings, sorted(rings), (drill, row))
            self.assertEqual(sorted(pairs), model_map(drill, row), (drill, row))

    def test_each_ring_has_distinct_colours_that_are_worn(self):
        for drill, row in cycle_samples():
            rows, start = model_walk(drill, row)
            worn = sorted(set("".join(rows[start:])))
            for ring in seat_rings(drill, row):
                colours = [colour for colour, _ in ring]
                self.assertEqual(len(colours), len(set(colours)), (drill, row))
                self.assertLessEqual(len(colours), len(worn), (drill, row))


class WrongArguments(unittest.TestCase):
    def assert_raises(self, wanted, value, function, *arguments):
        with self.assertRaises(wanted) as raised:
            function(*arguments)
        self.assertIs(raised.exception.__class__, wanted)
        self.assertEqual(raised.exception.value, value)

    def test_each_invalid_call_at_each_place(self):
        for drill, index in drills_with_one_fault():
            for row in ("", "abcdef"):
                with self.subTest(drill=drill, row=row):
                    self.assert_raises(BadCall, index, repeat_drill, drill, row, 3)
                    for function in (find_cycle, seat_map, seat_rings):
                        self.assert_raises(BadCall, index, function, drill, row)

    def test_an_invalid_call_without_a_run(self):
        for drill, index in drills_with_one_fault():
            self.assert_raises(BadCall, index, repeat_drill, drill, "abc", 0)

    def test_first_of_several_invalid_calls(self):
        for call in INVALID_CALLS:
            drill = [(1, "a", "b"), call, (0, "a", "b")]
            self.assert_raises(BadCall, 1, repeat_drill, drill, "ab", 1)
            for function in (find_cycle, seat_map, seat_rings):
                self.assert_raises(BadCall, 1, function, drill, "ab")

    def test_each_wrong_character_at_each_place(self):
        for row, index in rows_with_one_fault():
            for drill in ([], VALID_CALLS):
                for times in (0, 1, MOST):
                    self.assert_raises(BadRow, index, repeat_drill, drill, row, times)
                for function in (find_cycle, seat_map, seat_rings):
                    self.assert_raises(BadRow, index, function, drill, row)

    def test_first_of_several_wrong_characters(self):
        self.assert_raises(BadRow, 1, repeat_drill, EXAMPLE, "azgz", 1)
        for function in (find_cycle, seat_map, seat_rings):
            self.assert_raises(BadRow, 1, function, EXAMPLE, "azgz")
            self.assert_raises(BadRow, 59, function, EXAMPLE, "a" * 59 + "g")

    def test_negative_times(self):
        for times in (-1, -2, -60, -MOST):
            for drill in ([], VALID_CALLS, EXAMPLE):
                for row in ("", "aba"):
                    self.assert_raises(BadTimes, times, repeat_drill, drill, row, times)

    def test_calls_before_the_row(self):
        for drill, index in drills_with_one_fault():
            for row in ("z", "zab"):
                self.assert_raises(BadCall, index, repeat_drill, drill, row, 1)
                for function in (find_cycle, seat_map, seat_rings):
                    self.assert_raises(BadCall, index, function, drill, row)

    def test_calls_before_times(self):
        self.assert_raises(BadCall, 1, repeat_drill, [(1, "a", "b"), (0, "a", "b")], "ab", -7)

    def test_the_row_before_times(self):
        for row, index in rows_with_one_fault():
            self.assert_raises(BadRow, index, repeat_drill, EXAMPLE, row, -7)

    def test_all_three(self):
        self.assert_raises(BadCall, 2, repeat_drill, [(1, "a", "b")] * 2 + [("none", "a", "b")], "z", -7)


class UnchangedArguments(unittest.TestCase):
    def test_after_each_function(self):
        drill = [(1, "a", "c"), ("swap", "a", "b"), ("all", "c", "d"), (2, "d", "a")]
        before = copy.deepcopy(drill)
        for function, arguments in [
            (repeat_drill, ["aabca", 10 ** 20]), (find_cycle, ["aabca"]), (seat_map, ["aabca"]),
            (seat_rings, ["aabca"]),
        ]:
            first = function(drill, *arguments)
            self.assertEqual(drill, before)
            self.assertEqual(function(drill, *arguments), first)

    def test_after_an_error(self):
        for row, drill, times in [
            ("az", [(1, "a", "c")], 1), ("ab", [(1, "a", "c"), (0, "a", "b")], 1), ("ab", [(1, "a", "c")], -1),
        ]:
            before = copy.deepcopy(drill)
            self.assertRaises((BadCall, BadRow, BadTimes), repeat_drill, drill, row, times)
            self.assertEqual(drill, before)

    def test_a_drill_is_not_kept(self):
        drill = [("swap", "a", "b")]
        self.assertEqual(find_cycle(drill, "a"), (0, 2))
        pairs, rings = seat_map(drill, "a"), seat_rings(drill, "a")
        drill.append(("swap", "b", "c"))
        self.assertEqual(pairs, [(("a", 0), ("b", 0)), (("b", 0), ("a", 0))])
        self.assertEqual(rings, [[("a", 0), ("b", 0)]])
        self.assertEqual(find_cycle(drill, "a"), (0, 3))
        self.assertEqual(repeat_drill(drill, "a", 1), "c")
        self.assertEqual(len(seat_map(drill, "a")), 3)
        self.assertEqual(seat_rings(drill, "a"), [[("a", 0), ("c", 0), ("b", 0)]])
        drill.clear()
        self.assertEqual(find_cycle(drill, "a"), (0, 1))

    def test_a_returned_list_is_free(self):
        for drill, row in [([], "ab"), (EXAMPLE, "aab"), ([("swap", "a", "b")], "ab")]:
            for function in (seat_map, seat_rings):
                wanted = copy.deepcopy(function(drill, row))
                told = function(drill, row)
                self.assertIsNot(function(drill, row), told)
                told.reverse()
                told.append(7)
                self.assertEqual(function(drill, row), wanted)
                told.clear()
                self.assertEqual(function(drill, row), wanted)

    def test_the_lists_within_a_returned_list_are_free(self):
        drill = [("swap", "a", "b")]
        wanted = copy.deepcopy(seat_rings(drill, "aab"))
        told = seat_rings(drill, "aab")
        again = seat_rings(drill, "aab")
        for one, other in itertools.combinations(told + again, 2):
            self.assertIsNot(one, other)
        for ring in told:
            ring.append(7)
            ring[0] = 8
        self.assertEqual(again, wanted)
        self.assertEqual(seat_rings(drill, "aab"), wanted)
        self.assertEqual(seat_map(drill, "aab"), model_map(drill, "aab"))


if __name__ == "__main__":
    unittest.main()
