"""Promises 2, 3 and 23 to 25: Parade."""

import copy
import inspect
import random
import unittest

from drillrow import parades
from drillrow.errors import BadCall, BadColour, BadIndex, BadRow, BadTimes, DrillError
from drillrow.parades import Parade
from tests.samples import (
    COLOURS, INVALID_CALLS, VALID_CALLS, draw_call, draw_samples, drills_with_one_fault, model_call, model_walk,
    rows_with_one_fault,
)

EXAMPLE = [(1, 'a', 'c'), (1, 'b', 'a'), (1, 'c', 'b')]
MOST = 10 ** 30 - 1
NOT_COLOURS = ["", "ab", "bc", "abcdef", "aa", "g", "A", "z", "1", " ", "`", "a ", "\n"]


def model_repeat(drill, row, times):
    """Return the row after that many runs, from runs one after the other."""
    rows, start = model_walk(drill, row)
    return rows[times] if times < start else rows[start + (times - start) % (len(rows) - start)]


def make_parade():
    """Return a parade with four steps, and the rows of its history."""
    parade = Parade("abca")
    parade.join("d")
    parade.leave(1)
    parade.call("swap", "a", "b")
    parade.drill([(1, "b", "f")], 2)
    return parade, ["abca", "abcad", "acad", "bcbd", "fcfd"]


def draw_step(chance, row):
    """Draw a method, its arguments and the row after it; each now and then with wrong arguments, without a row."""
    kind = chance.randrange(4)
    wrong = chance.random() < 0.2
    drill = [draw_call(chance, COLOURS, 20) for _ in range(chance.randint(0, 8))]
    if kind == 0 and len(row) < 60:
        colour = chance.choice(NOT_COLOURS if wrong else COLOURS)
        return "join", (colour,), None if wrong else row + colour
    if kind == 1 and row:
        index = chance.choice([-1, len(row), -len(row), 10 ** 20]) if wrong else chance.randrange(len(row))
        return "leave", (index,), None if wrong else row[:index] + row[index + 1:]
    if kind == 2:
        call = chance.choice(INVALID_CALLS) if wrong else draw_call(chance, COLOURS, 20)
        return "call", call, None if wrong else model_call(call, row)
    times = chance.choice([-1, -10 ** 29]) if wrong else chance.choice([0, 1, 2, 3, 50, 10 ** 29, MOST])
    return "drill", (drill, times), None if wrong else model_repeat(drill, row, times)


class WithParades(unittest.TestCase):
    def assert_history(self, parade, rows):
        """Undo all steps of a parade; its rows are these, from the first one on."""
        for steps in range(len(rows) - 1, 0, -1):
            self.assertEqual((parade.row(), parade.steps(), len(parade)), (rows[steps], steps, len(rows[steps])))
            self.assertIs(parade.undo(), None)
        self.assertEqual((parade.row(), parade.steps(), len(parade)), (rows[0], 0, len(rows[0])))

    def assert_raises(self, wanted, value, function, *arguments):
        with self.assertRaises(wanted) as raised:
            function(*arguments)
        self.assertIs(raised.exception.__class__, wanted)
        self.assertEqual(raised.exception.value, value)


class Examples(WithParades):
    def test_call(self):
        p = Parade('ab')
        p.join('a')
        p.call(2, 'a', 'c')
        self.assertEqual(p.row(), 'abc')

    def test_undo(self):
        p = Parade('ab')
        p.join('a')
        p.call(2, 'a', 'c')
        p.undo()
        self.assertEqual([p.row(), p.steps()], ['aba', 1])


class Interface(WithParades):
    def test_defined_in_its_file(self):
        self.assertTrue(inspect.isclass(parades.Parade))
        self.assertEqual(Parade.__module__, "drillrow.parades")

    def test_each_method_is_defined_in_the_class_itself(self):
        wanted = {
            "__init__": ["self", "row"],
            "__len__": ["self"],
            "row": ["self"],
            "steps": ["self"],
            "leave": ["self", "index"],
            "call": ["self", "kind", "source", "target"],
            "drill": ["self", "calls", "times"],
            "undo": ["self"],
        }
        for name, arguments in wanted.items():
            self.assertEqual(list(inspect.signature(vars(Parade)[name]).parameters), arguments)
        for name in ("join", "__eq__", "__ne__"):
            self.assertEqual(len(inspect.signature(vars(Parade)[name]).parameters), 2)

    def test_by_name(self):
        parade = Parade(row="ab")
        parade.leave(index=0)
        parade.call(target="c", source="b", kind=1)
        parade.drill(times=3, calls=[("swap", "c", "d")])
        self.assertEqual((parade.row(), parade.steps()), ("d", 3))

    def test_kinds_of_values(self):
        for row in ("", "abc"):
            parade = Parade(row)
            self.assertIs(parade.row().__class__, str)
            self.assertIs(parade.steps().__class__, int)
            self.assertIs(len(parade).__class__, int)
            self.assertIs(parade == parade, True)
            self.assertIs(parade != parade, False)
            self.assertIs(parade == row, False)
            self.assertIs(parade != row, True)

    def test_each_step_returns_none(self):
        parade = Parade("ab")
        self.assertIs(parade.join("c"), None)
        self.assertIs(parade.leave(0), None)
        self.assertIs(parade.call(1, "b", "a"), None)
        self.assertIs(parade.drill([], 5), None)
        self.assertIs(parade.undo(), None)


class NewParades(WithParades):
    def test_row_and_length_and_steps(self):
        for row in ("", "a", "ff", "fedcba", "abcdef" * 10):
            parade = Parade(row)
            self.assertEqual((parade.row(), len(parade), parade.steps()), (row, len(row), 0))

    def test_each_wrong_character_at_each_place(self):
        for row, index in rows_with_one_fault():
            self.assert_raises(BadRow, index, Parade, row)

    def test_first_of_several_wrong_characters(self):
        self.assert_raises(BadRow, 2, Parade, "abzcgz")
        self.assert_raises(BadRow, 59, Parade, "a" * 59 + "g")


class Equality(WithParades):
    def test_equal_rows(self):
        for row in ("", "a", "abcabc", "f" * 60):
            self.assertTrue(Parade(row) == Parade(row))
            self.assertFalse(Parade(row) != Parade(row))

    def test_unequal_rows(self):
        for row, other in [("", "a"), ("a", "b"), ("ab", "ba"), ("aab", "aa"), ("a" * 59, "a" * 60)]:
            self.assertFalse(Parade(row) == Parade(other))
            self.assertTrue(Parade(row) != Parade(other))
            self.assertFalse(Parade(other) == Parade(row))

    def test_the_history_does_not_matter(self):
        one, other = Parade("a"), Parade("ab")
        self.assertTrue(one != other)
        one.join("b")
        self.assertTrue(one == other)
        self.assertEqual((one.steps(), other.steps()), (1, 0))
        other.drill([], 0)
        self.assertTrue(one == other)
        other.leave(1)
        self.assertTrue(one != other)
        one.undo()
        self.assertTrue(one == other)

    def test_other_kinds_of_values(self):
        class Lookalike:
            def __init__(self):
                self._row, self._past = "ab", []

            def __eq__(self, other):
                return True

            def row(self):
                return "ab"

        parade = Parade("ab")
        for other in ["ab", b"ab", ["a", "b"], ("a", "b"), 2, 0, None, {}, [parade], Parade, parade.row, Lookalike()]:
            with self.subTest(other=other):
                self.assertIs(parade == other, False)
                self.assertIs(parade != other, True)
        for other in ["ab", b"ab", ["a", "b"], 2, None]:
            self.assertIs(other == parade, False)
            self.assertIs(other != parade, True)
        for other in ["", 0, None, False, [], ()]:
            self.assertIs(Parade("") == other, False)
            self.assertIs(Parade("") != other, True)

    def test_among_other_values(self):
        self.assertTrue(Parade("ab") in ["ab", Parade("ab")])
        self.assertFalse(Parade("ab") in ["ab", None, Parade("ba")])
        self.assertEqual([Parade("a"), Parade("b")].index(Parade("b")), 1)

    def test_a_comparison_changes_nothing(self):
        parade, rows = make_parade()
        other, others = make_parade()
        for value in (other, parade, "ab", None):
            self.assertEqual(parade == value, not parade != value)
        self.assert_history(parade, rows)
        self.assert_history(other, others)


class Steps(WithParades):
    def test_join(self):
        parade = Parade("")
        for colour in "fabcde":
            parade.join(colour)
        self.assertEqual(parade.row(), "fabcde")
        self.assert_history(parade, ["", "f", "fa", "fab", "fabc", "fabcd", "fabcde"])

    def test_join_up_to_sixty(self):
        parade = Parade("")
        for _ in range(60):
            parade.join("e")
        self.assertEqual((parade.row(), len(parade), parade.steps()), ("e" * 60, 60, 60))

    def test_leave_at_each_index(self):
        for index, after in enumerate(["bcd", "acd", "abd", "abc"]):
            parade = Parade("abcd")
            parade.leave(index)
            self.assert_history(parade, ["abcd", after])

    def test_leave_until_nobody_is_there(self):
        parade = Parade("aba")
        for _ in range(3):
            parade.leave(0)
        self.assert_raises(BadIndex, 0, parade.leave, 0)
        self.assert_history(parade, ["aba", "ba", "a", ""])

    def test_one_of_several_alike_leaves(self):
        parade = Parade("aabaa")
        parade.leave(2)
        parade.leave(3)
        self.assert_history(parade, ["aabaa", "aaaa", "aaa"])

    def test_call(self):
        for call, after in [
            ((2, "a", "c"), "abcb"), ((3, "a", "c"), "abab"), ((1, "b", "f"), "afab"), (("all", "b", "a"), "aaaa"),
            (("swap", "a", "b"), "baba"), (("swap", "e", "f"), "abab"), ((20, "a", "b"), "abab"),
        ]:
            parade = Parade("abab")
            parade.call(*call)
            self.assert_history(parade, ["abab", after])

    def test_a_call_that_changes_nobody_is_a_step(self):
        parade = Parade("")
        parade.call(1, "a", "b")
        parade.call("all", "a", "b")
        parade.call("swap", "a", "b")
        self.assert_history(parade, ["", "", "", ""])

    def test_drill(self):
        for times, after in [(0, "aa"), (1, "ba"), (2, "ab"), (3, "ba"), (10 ** 29, "ab"), (MOST, "ba")]:
            parade = Parade("aa")
            parade.drill(EXAMPLE, times)
            self.assert_history(parade, ["aa", after])

    def test_a_drill_of_several_calls_and_runs_is_one_step(self):
        parade = Parade("aaaa")
        parade.drill([(1, "a", "b"), (1, "a", "c")], 2)
        self.assertEqual((parade.row(), parade.steps()), ("bcbc", 1))
        parade.undo()
        self.assertEqual((parade.row(), parade.steps()), ("aaaa", 0))

    def test_no_runs_and_no_calls_are_a_step(self):
        for row in ("", "abc"):
            for calls, times in [(EXAMPLE, 0), ([], 0), ([], 1), ([], MOST), (VALID_CALLS, 0)]:
                parade = Parade(row)
                parade.drill(calls, times)
                self.assert_history(parade, [row, row])

    def test_the_samples_of_drills(self):
        for drill, row in draw_samples("parades", 100):
            parade = Parade(row)
            parade.drill(drill, 3)
            parade.drill(drill, MOST)
            third = model_repeat(drill, row, 3)
            self.assert_history(parade, [row, third, model_repeat(drill, third, MOST)])


class Undo(WithParades):
    def test_each_kind_of_step(self):
        parade, rows = make_parade()
        self.assert_history(parade, rows)

    def test_nothing_to_undo(self):
        for row in ("", "ab"):
            parade = Parade(row)
            for _ in range(2):
                self.assert_raises(BadIndex, None, parade.undo)
                self.assertEqual((parade.row(), parade.steps()), (row, 0))

    def test_nothing_left_to_undo(self):
        parade, rows = make_parade()
        self.assert_history(parade, rows)
        self.assert_raises(BadIndex, None, parade.undo)
        self.assert_history(parade, rows[:1])
        parade.join("f")
        self.assert_history(parade, ["abca", "abcaf"])

    def test_steps_after_an_undo(self):
        parade = Parade("a")
        parade.join("b")
        parade.join("c")
        parade.undo()
        parade.join("d")
        self.assertEqual((parade.row(), parade.steps()), ("abd", 2))
        parade.undo()
        parade.undo()
        parade.call(1, "a", "f")
        self.assert_history(parade, ["a", "f"])

    def test_an_undone_step_is_gone(self):
        parade = Parade("a")
        parade.join("b")
        parade.undo()
        self.assert_raises(BadIndex, None, parade.undo)
        self.assertEqual((parade.row(), parade.steps()), ("a", 0))


class AgainstAModel(WithParades):
    def test_drawn_histories(self):
        chance = random.Random("parades")
        for _ in range(40):
            rows = ["".join(chance.choice(COLOURS) for _ in range(chance.choice([0, 1, 5, 40])))]
            parade = Parade(rows[0])
            for _ in range(200):
                if chance.random() < 0.3:
                    if len(rows) > 1:
                        parade.undo()
                        rows.pop()
                    else:
                        self.assert_raises(BadIndex, None, parade.undo)
                else:
                    name, arguments, after = draw_step(chance, rows[-1])
                    if after is None:
                        self.assertRaises(DrillError, getattr(parade, name), *arguments)
                    else:
                        getattr(parade, name)(*arguments)
                        rows.append(after)
                self.assertEqual((parade.row(), len(parade)), (rows[-1], len(rows[-1])))
                self.assertEqual(parade.steps(), len(rows) - 1)
            self.assert_history(parade, rows)

    def test_two_hundred_steps(self):
        parade = Parade("a" * 30)
        rows = ["a" * 30]
        for times in range(200):
            parade.drill([(1, "a", "b"), (20, "a", "c"), ("swap", "c", "d")], times)
            rows.append(model_repeat([(1, "a", "b"), (20, "a", "c"), ("swap", "c", "d")], rows[-1], times))
        self.assert_history(parade, rows)


class WrongArguments(WithParades):
    """Each error with its value and its order, and no change after it."""

    def assert_refuses(self, wanted, value, name, *arguments):
        parade, rows = make_parade()
        self.assert_raises(wanted, value, getattr(parade, name), *arguments)
        self.assert_history(parade, rows)
        parade = Parade("")
        if name != "leave":
            self.assert_raises(wanted, value, getattr(parade, name), *arguments)
            self.assert_history(parade, [""])

    def test_join(self):
        for colour in NOT_COLOURS:
            self.assert_refuses(BadColour, colour, "join", colour)

    def test_leave(self):
        for index in (-1, -4, -5, -10 ** 20, 4, 5, 60, 10 ** 29):
            self.assert_refuses(BadIndex, index, "leave", index)

    def test_leave_beyond_both_ends(self):
        for length in (0, 1, 2, 60):
            for index in (-1, -length - 1, length, length + 1):
                parade = Parade("b" * length)
                self.assert_raises(BadIndex, index, parade.leave, index)
                self.assert_history(parade, ["b" * length])

    def test_leave_an_empty_parade(self):
        for index in (0, -1, 1):
            self.assert_raises(BadIndex, index, Parade("").leave, index)

    def test_call(self):
        for call in INVALID_CALLS:
            self.assert_refuses(BadCall, 0, "call", *call)

    def test_each_invalid_call_of_a_drill(self):
        for drill, index in drills_with_one_fault():
            for times in (0, 1, MOST):
                self.assert_refuses(BadCall, index, "drill", drill, times)

    def test_first_of_several_invalid_calls(self):
        for call in INVALID_CALLS:
            self.assert_refuses(BadCall, 1, "drill", [(1, "a", "b"), call, (0, "a", "b")], 1)

    def test_times(self):
        for times in (-1, -2, -10 ** 29):
            for drill in ([], VALID_CALLS):
                self.assert_refuses(BadTimes, times, "drill", drill, times)

    def test_calls_before_times(self):
        for drill, index in drills_with_one_fault():
            self.assert_refuses(BadCall, index, "drill", drill, -1)

    def test_steps_after_an_error(self):
        parade = Parade("ab")
        parade.join("c")
        self.assert_raises(BadCall, 0, parade.call, 0, "a", "b")
        parade.call(1, "a", "b")
        self.assert_raises(BadTimes, -3, parade.drill, [], -3)
        self.assert_history(parade, ["ab", "abc", "bbc"])


class SeparateObjects(WithParades):
    def test_a_passed_drill_is_not_changed_and_not_kept(self):
        calls = [(1, "a", "b"), ("swap", "b", "c")]
        before = copy.deepcopy(calls)
        parade = Parade("aab")
        parade.drill(calls, 1)
        self.assertEqual(calls, before)
        calls.append(("all", "c", "f"))
        self.assertEqual(parade.row(), "cac")
        parade.drill(calls, 1)
        calls.clear()
        self.assert_history(parade, ["aab", "cac", "bfb"])

    def test_a_drill_is_not_changed_by_an_error(self):
        for calls, times in [([(1, "a", "b"), (0, "a", "b")], 1), ([(1, "a", "b")], -1)]:
            before = copy.deepcopy(calls)
            self.assertRaises(DrillError, Parade("ab").drill, calls, times)
            self.assertEqual(calls, before)

    def test_each_parade_has_its_own_history(self):
        one, other = Parade("ab"), Parade("ab")
        one.join("c")
        one.call("all", "a", "b")
        self.assertEqual((other.row(), other.steps()), ("ab", 0))
        other.leave(0)
        self.assert_history(one, ["ab", "abc", "bbc"])
        self.assert_history(other, ["ab", "b"])

    def test_a_parade_from_the_row_of_another_one(self):
        one, rows = make_parade()
        other = Parade(one.row())
        other.join("a")
        self.assert_history(one, rows)
        self.assert_history(other, ["fcfd", "fcfda"])


if __name__ == "__main__":
    unittest.main()
