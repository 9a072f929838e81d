"""Promises 9, 13 and 14: what a person wears depends on themselves and on the counts ahead."""

import itertools
import random
import unittest

from drillrow.calls import run_drill
from drillrow.counts import colour_after, count_colours, run_on_counts
from drillrow.cycles import repeat_drill
from tests.samples import COLOURS, draw_samples, rows_up_to

RUNS = 4
# Far beyond every row's way into its cycle.
MANY_RUNS = [10 ** 9, 10 ** 29, 10 ** 30 - 1, 10 ** 30 - 2, 10 ** 30 - 7]


def run_times(drill, row, times):
    """Return the row after several runs."""
    for _ in range(times):
        row = run_drill(drill, row)
    return row


class OnePerson(unittest.TestCase):
    def assert_follows_counts(self, drill, row):
        after = run_drill(drill, row)
        self.assertEqual(len(after), len(row))
        for index, person in enumerate(row):
            ahead = count_colours(row[:index])
            self.assertEqual(after[index], colour_after(drill, ahead, person), (drill, row, index))
        self.assertEqual(count_colours(after), run_on_counts(drill, count_colours(row)), (drill, row))

    def test_small_rows_and_single_calls(self):
        pairs = list(itertools.permutations("abc", 2))
        calls = [(kind, x, y) for kind in (1, 2, 3, "all", "swap") for x, y in pairs]
        for call in calls:
            for row in rows_up_to(4, "abc"):
                self.assert_follows_counts([call], row)

    def test_samples(self):
        for drill, row in draw_samples("person", 300):
            self.assert_follows_counts(drill, row)

    def test_several_runs(self):
        for drill, row in draw_samples("runs", 100):
            counts = count_colours(row)
            for _ in range(RUNS):
                self.assert_follows_counts(drill, row)
                row = run_drill(drill, row)
                counts = run_on_counts(drill, counts)
                self.assertEqual(count_colours(row), counts)

    def test_colours_after_several_runs_follow_from_counts_alone(self):
        for drill, row in draw_samples("alone", 100):
            for index, person in enumerate(row):
                ahead = count_colours(row[:index])
                for _ in range(RUNS):
                    person = colour_after(drill, ahead, person)
                    ahead = run_on_counts(drill, ahead)
                self.assertEqual(person, run_times(drill, row, RUNS)[index], (drill, row, index))


class OthersInTheRow(unittest.TestCase):
    def test_order_ahead_does_not_matter(self):
        chance = random.Random("order")
        for drill, row in draw_samples("ahead", 300):
            if row:
                index = chance.randrange(len(row))
                ahead = "".join(chance.sample(row[:index], index))
                for times in range(1, RUNS):
                    one = run_times(drill, row, times)
                    other = run_times(drill, ahead + row[index:], times)
                    self.assertEqual(one[index:], other[index:], (drill, row, ahead))

    def test_nobody_behind_matters(self):
        for drill, row in draw_samples("behind", 300):
            for times in range(1, RUNS):
                after = run_times(drill, row, times)
                for index in range(0, len(row), 7):
                    self.assertEqual(run_times(drill, row[:index], times), after[:index])
                    self.assertEqual(run_times(drill, row[:index] + "fa", times)[:index], after[:index])

    def test_after_very_many_runs(self):
        chance = random.Random("very many")
        for drill, row in draw_samples("far ahead", 60):
            if row:
                index = chance.randrange(len(row))
                ahead = "".join(chance.sample(row[:index], index))
                for times in MANY_RUNS:
                    one = repeat_drill(drill, row, times)
                    other = repeat_drill(drill, ahead + row[index:], times)
                    self.assertEqual(one[index:], other[index:], (drill, row, ahead))
                    self.assertEqual(repeat_drill(drill, row[:index], times), one[:index])


class OneMorePerson(unittest.TestCase):
    def assert_one_more(self, drill, row, index, colour):
        longer = row[:index] + colour + row[index:]
        for times in [*range(RUNS), *MANY_RUNS]:
            # Few runs are made one by one, so that this does not hang on repeat_drill alone.
            repeat = run_times if times < RUNS else repeat_drill
            without = repeat(drill, row, times)
            with_one = repeat(drill, longer, times)
            for end in range(index, len(row) + 1):
                few, many = count_colours(without[:end]), count_colours(with_one[:end + 1])
                more = sorted(many[k] - few[k] for k in range(6))
                self.assertEqual(more, [0, 0, 0, 0, 0, 1], (drill, row, index, colour, times))

    def test_samples(self):
        chance = random.Random("insert")
        for drill, row in draw_samples("one more", 200):
            self.assert_one_more(drill, row, chance.randint(0, len(row)), chance.choice(COLOURS))

    def test_every_place_in_small_rows(self):
        drill = [(1, "a", "c"), (2, "b", "a"), (1, "c", "b"), ("swap", "a", "b")]
        for row in rows_up_to(3, "abc"):
            for index in range(len(row) + 1):
                for colour in "abc":
                    self.assert_one_more(drill, row, index, colour)


if __name__ == "__main__":
    unittest.main()
