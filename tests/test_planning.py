"""Promises 2, 3, 21 and 22: fewest_calls and plan_calls, and their plans passed to the other functions."""

import copy
import functools
import inspect
import itertools
import random
import unittest

from drillrow import planning
from drillrow.calls import run_drill
from drillrow.comparing import parting_row
from drillrow.counts import colour_after, count_colours, run_on_counts
from drillrow.cycles import find_cycle, repeat_drill, seat_map, seat_rings
from drillrow.errors import BadGoal, BadRow
from drillrow.parades import Parade
from drillrow.planning import fewest_calls, plan_calls
from drillrow.predecessors import count_predecessors
from drillrow.readings import read_drill
from drillrow.texts import show_drill
from tests.samples import COLOURS, model_call, model_drill, model_walk, rows_of, rows_up_to, rows_with_one_fault

# Pairs that use more than two colours together, or differ in length.
NO_GOALS = [
    ("aab", "abba"), ("", "a"), ("a", ""), ("aa", "a"), ("a" * 60, "a" * 59), ("a", "bb"), ("ab", "abc"),
    ("abc", "abc"), ("aab", "aac"), ("aac", "aab"), ("ab", "cc"), ("cc", "ab"), ("abc", "aaa"), ("aaa", "abc"),
    ("ab", "cd"), ("fed", "cba"), ("abcdef", "abcdef"), ("abcdef", "a"), ("a" * 59 + "b", "a" * 59 + "c"),
]


@functools.cache
def fewest_by_stages(row, goal):
    """Return the fewest calls from the last person on: who must change needs all ahead in the new colour first."""
    if not row:
        return 0
    if row[-1] == goal[-1]:
        return fewest_by_stages(row[:-1], goal[:-1])
    alike = goal[-1] * (len(row) - 1)
    return fewest_by_stages(row[:-1], alike) + 1 + fewest_by_stages(alike, goal[:-1])


def search_from(row, colours):
    """Return the smallest number of calls from a row to each row, by trying all calls in breadth."""
    calls = [(1, source, target) for source, target in itertools.permutations(colours, 2)]
    found = {row: 0}
    waiting = [row]
    for before in waiting:
        for call in calls:
            after = model_call(call, before)
            if after not in found:
                found[after] = found[before] + 1
                waiting.append(after)
    return found


def draw_pairs(seed, many):
    """Draw pairs of rows of two colours with up to sixty people."""
    chance = random.Random(seed)
    pairs = []
    for _ in range(many):
        colours = chance.sample(COLOURS, 2)
        length = chance.choice([1, 2, 3, 8, 30, 59, 60])
        rows = ["".join(chance.choice(colours) for _ in range(length)) for _ in range(2)]
        same = chance.choice([0, 0, length // 2])
        pairs.append((rows[0], rows[1][:length - same] + rows[0][length - same:]))
    return pairs


LONG_PAIRS = [
    ("b" * 60, "ba" * 30), ("ab" * 30, "ba" * 30), ("e" * 60, "c" * 60), ("cf" * 30, "c" * 60),
    ("d" * 60, "dddaaa" * 10),
]


class Examples(unittest.TestCase):
    def test_fewest_calls(self):
        self.assertEqual(fewest_calls('aab', 'bba'), 3)

    def test_plan_calls(self):
        self.assertEqual(run_drill(plan_calls('aab', 'bba'), 'aab'), 'bba')

    def test_the_plan_of_the_example(self):
        # Of all lists of three calls only this one leads there.
        lists = itertools.product([(1, "a", "b"), (1, "b", "a")], repeat=3)
        found = [list(calls) for calls in lists if model_drill(calls, "aab") == "bba"]
        self.assertEqual(found, [[(1, "b", "a"), (1, "a", "b"), (1, "a", "b")]])
        self.assertEqual(plan_calls("aab", "bba"), found[0])

    def test_no_goal(self):
        with self.assertRaises(BadGoal) as raised:
            plan_calls('aab', 'abba')
        self.assertIs(raised.exception.value, None)

    def test_two_rows_of_one_colour_use_two_colours_together(self):
        self.assertEqual(fewest_calls("aaa", "bbb"), 3)
        self.assertEqual(run_drill(plan_calls("aaa", "bbb"), "aaa"), "bbb")


class Interface(unittest.TestCase):
    def test_defined_in_their_file_with_these_arguments(self):
        for name in ("fewest_calls", "plan_calls"):
            found = getattr(planning, name)
            self.assertTrue(inspect.isfunction(found))
            self.assertEqual(found.__module__, "drillrow.planning")
            self.assertEqual(list(inspect.signature(found).parameters), ["row", "goal"])

    def test_by_name(self):
        self.assertEqual(fewest_calls(goal="b", row="a"), 1)
        self.assertEqual(fewest_calls("ab", goal="aa"), 1)
        self.assertEqual(plan_calls(goal="b", row="a"), [(1, "a", "b")])
        self.assertEqual(plan_calls("a", goal="b"), [(1, "a", "b")])

    def test_kinds_of_values(self):
        for row, goal in [("", ""), ("ab", "ab"), ("aab", "bba"), ("ffff", "dddd")]:
            self.assertIs(fewest_calls(row, goal).__class__, int)
            plan = plan_calls(row, goal)
            self.assertIs(plan.__class__, list)
            for call in plan:
                self.assertIs(call.__class__, tuple)
                self.assertEqual([part.__class__ for part in call], [int, str, str])


class Edges(unittest.TestCase):
    def assert_plan(self, row, goal, many):
        self.assertEqual(fewest_calls(row, goal), many)
        plan = plan_calls(row, goal)
        self.assertEqual(len(plan), many)
        self.assertEqual(model_drill(plan, row), goal)

    def test_empty_rows(self):
        self.assert_plan("", "", 0)
        self.assertEqual(plan_calls("", ""), [])

    def test_equal_rows(self):
        for row in ("a", "f", "ab", "ba", "aabb", "ff", "ef" * 30, "d" * 60):
            self.assert_plan(row, row, 0)
            self.assertEqual(plan_calls(row, row), [])

    def test_one_person(self):
        for source, target in itertools.permutations(COLOURS, 2):
            self.assert_plan(source, target, 1)
            self.assertEqual(plan_calls(source, target), [(1, source, target)])

    def test_rows_of_one_colour_each(self):
        for length in (2, 3, 59, 60):
            for row, goal in [("a", "b"), ("f", "c"), ("b", "a")]:
                self.assert_plan(row * length, goal * length, length)

    def test_a_goal_of_one_colour(self):
        self.assert_plan("ab" * 30, "a" * 60, 30)
        self.assert_plan("ab" * 30, "b" * 60, 30)
        self.assert_plan("a" * 59 + "b", "a" * 60, 1)

    def test_only_the_front_differs(self):
        self.assert_plan("a" + "b" * 59, "b" * 60, 1)
        self.assert_plan("b" * 60, "a" + "b" * 59, 1)
        self.assert_plan("ba" * 30, "aa" + "ba" * 29, 1)

    def test_only_the_last_one_differs(self):
        # To reach the last b everyone ahead must wear a, and to leave them as they were takes each of them again.
        self.assert_plan("b" * 60, "b" * 59 + "a", 60 + 59)
        self.assert_plan("a" * 59 + "b", "a" * 60, 1)

    def test_people_behind_the_last_difference_do_not_matter(self):
        for behind in ("", "a", "b", "ba", "ab" * 20):
            self.assert_plan("aab" + behind, "bba" + behind, 3)

    def test_the_longest_plan(self):
        self.assert_plan("b" * 60, "ba" * 30, 60 * 61 // 2)
        self.assert_plan("a" * 60, "ab" * 30, 60 * 61 // 2)

    def test_somewhat_longer_rows(self):
        self.assert_plan("b" * 80, "ba" * 40, 80 * 81 // 2)


class AgainstASearch(unittest.TestCase):
    def test_all_pairs_of_small_rows(self):
        for colours in ("ab", "fc"):
            for row in rows_up_to(6, colours):
                found = search_from(row, colours)
                for goal in rows_of(len(row), colours):
                    self.assertEqual(fewest_calls(row, goal), found[goal], (row, goal))
                    plan = plan_calls(row, goal)
                    self.assertEqual(len(plan), found[goal], (row, goal))
                    self.assertEqual(model_drill(plan, row), goal, (row, goal))

    def test_drawn_rows_of_ten(self):
        chance = random.Random("ten")
        rows = rows_of(10, "de")
        for row in chance.sample(rows, 6) + ["d" * 10]:
            found = search_from(row, "de")
            for goal in chance.sample(rows, 100) + ["de" * 5, "ed" * 5]:
                self.assertEqual(fewest_calls(row, goal), found[goal], (row, goal))
                self.assertEqual(len(plan_calls(row, goal)), found[goal], (row, goal))

    def test_drawn_rows_of_up_to_sixty(self):
        for row, goal in draw_pairs("sixty", 200) + LONG_PAIRS:
            many = fewest_by_stages(row, goal)
            self.assertEqual(fewest_calls(row, goal), many, (row, goal))
            plan = plan_calls(row, goal)
            self.assertEqual(len(plan), many, (row, goal))
            self.assertEqual(run_drill(plan, row), goal, (row, goal))

    def test_only_calls_of_this_form(self):
        for row, goal in draw_pairs("form", 100) + LONG_PAIRS:
            for kind, source, target in plan_calls(row, goal):
                self.assertEqual(kind, 1)
                self.assertEqual(sorted([source, target]), sorted(set(row + goal)))


class WrongArguments(unittest.TestCase):
    def assert_raises(self, wanted, value, row, goal):
        for function in (fewest_calls, plan_calls):
            with self.assertRaises(wanted) as raised:
                function(row, goal)
            self.assertIs(raised.exception.__class__, wanted)
            self.assertEqual(raised.exception.value, value)

    def test_each_wrong_character_at_each_place(self):
        for row, index in rows_with_one_fault():
            self.assert_raises(BadRow, index, row, "a" * 7)
            self.assert_raises(BadRow, index, "a" * 7, row)

    def test_first_of_several_wrong_characters(self):
        self.assert_raises(BadRow, 1, "azbz", "aaaa")
        self.assert_raises(BadRow, 2, "aaaa", "aagz")

    def test_the_row_before_the_goal(self):
        for row, index in rows_with_one_fault():
            self.assert_raises(BadRow, index, row, "z" * 7)
            self.assert_raises(BadRow, index, row, "z")

    def test_no_goals(self):
        for row, goal in NO_GOALS:
            self.assert_raises(BadGoal, None, row, goal)

    def test_rows_before_lengths_and_colours(self):
        self.assert_raises(BadRow, 3, "abaz", "a")
        self.assert_raises(BadRow, 3, "a", "abaz")
        self.assert_raises(BadRow, 3, "abcz", "abca")
        self.assert_raises(BadRow, 0, "", "z")
        self.assert_raises(BadRow, 0, "zz", "zzz")


class ReturnedPlans(unittest.TestCase):
    def test_a_returned_plan_is_free(self):
        for row, goal in [("aab", "bba"), ("ab", "ab"), ("", "")]:
            plan = plan_calls(row, goal)
            wanted = list(plan)
            self.assertIsNot(plan_calls(row, goal), plan)
            plan.append((1, "c", "d"))
            plan.reverse()
            self.assertEqual(plan_calls(row, goal), wanted)
            self.assertEqual(fewest_calls(row, goal), len(wanted))
            plan.clear()
            self.assertEqual(plan_calls(row, goal), wanted)


class PlansPassedOn(unittest.TestCase):
    """A plan is a drill, whatever its length."""

    def test_to_runs_and_counts(self):
        for row, goal in LONG_PAIRS + draw_pairs("passed", 20):
            plan = plan_calls(row, goal)
            before = copy.deepcopy(plan)
            self.assertEqual(run_on_counts(plan, count_colours(row)), count_colours(goal))
            for index in range(0, len(row), 7):
                self.assertEqual(colour_after(plan, count_colours(row[:index]), row[index]), goal[index])
            self.assertEqual(plan, before)

    def test_to_cycles(self):
        for row, goal in LONG_PAIRS:
            plan = plan_calls(row, goal)
            for people in (row, goal, COLOURS * 10, "abcdef"):
                rows, start = model_walk(plan, people)
                self.assertEqual(find_cycle(plan, people), (start, len(rows) - start))
                last = rows[start + (10 ** 29 - start) % (len(rows) - start)]
                self.assertEqual(repeat_drill(plan, people, 10 ** 29), last)
                following = dict(seat_map(plan, people))
                for ring in seat_rings(plan, people):
                    self.assertEqual([following[seat] for seat in ring], ring[1:] + ring[:1])

    def test_to_parades(self):
        for row, goal in LONG_PAIRS:
            parade = Parade(row)
            parade.drill(plan_calls(row, goal), 1)
            self.assertEqual((parade.row(), parade.steps()), (goal, 1))

    def test_to_texts(self):
        for row, goal in LONG_PAIRS:
            plan = plan_calls(row, goal)
            self.assertEqual(read_drill(show_drill(plan)), plan)

    def test_to_predecessors(self):
        # A plan that makes a whole row alike on its way makes the same of every row of its colours.
        plan = plan_calls("b" * 60, "ba" * 30)
        self.assertEqual(count_predecessors(plan, "ba" * 6), 2 ** 12)
        self.assertEqual(count_predecessors(plan, "bacbadbaebaf"), 2 ** 8)
        self.assertEqual(count_predecessors(plan, "ab" * 6), 0)

    def test_to_predecessors_against_every_row(self):
        for row, goal in [("abbab", "babaa"), ("aaaaa", "ababb"), ("bbaba", "bbbaa")]:
            plan = plan_calls(row, goal)
            told = {}
            for people in rows_of(5, "abc"):
                after = model_drill(plan, people)
                told[after] = told.get(after, 0) + 1
            for people in rows_of(5, "abc"):
                self.assertEqual(count_predecessors(plan, people), told.get(people, 0), (plan, people))

    def test_to_comparisons(self):
        for row, goal in LONG_PAIRS:
            plan = plan_calls(row, goal)
            self.assertIs(parting_row(plan, list(plan)), None)
            for other in ([], plan[:-1], plan[1:], plan[:20] + plan[21:], plan_calls(goal, row)):
                found = parting_row(plan, other)
                self.assertNotEqual(model_drill(plan, found), model_drill(other, found))
                self.assertEqual(parting_row(other, plan), found)

    def test_to_comparisons_with_short_drills(self):
        self.assertEqual(parting_row(plan_calls("a" * 60, "b" * 60), [("all", "a", "b")]), "a" * 61)
        self.assertEqual(parting_row([("all", "f", "c")], plan_calls("fc" * 30, "c" * 60)), "f" * 31)
        self.assertEqual(parting_row(plan_calls("a" * 60, "b" * 60), [("all", "a", "b"), (4, "b", "c")]), "aaaa")

    def test_to_comparisons_against_all_rows_in_order(self):
        for row, goal in [("abbab", "babaa"), ("aaaa", "abab"), ("bbaba", "bbbaa"), ("abab", "bbbb")]:
            plan = plan_calls(row, goal)
            for index in range(len(plan)):
                other = plan[:index] + plan[index + 1:]
                searched = None
                for people in rows_up_to(8, "ab"):
                    if model_drill(plan, people) != model_drill(other, people):
                        searched = people
                        break
                self.assertEqual(parting_row(plan, other), searched, (plan, other))


if __name__ == "__main__":
    unittest.main()
