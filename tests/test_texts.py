"""Promises 2, 3, 26 and 27: show_drill, show_counts, read_drill and read_counts."""

import copy
import inspect
import random
import unittest

from drillrow import readings, texts
from drillrow.errors import BadText
from drillrow.readings import read_counts, read_drill
from drillrow.texts import show_counts, show_drill
from tests.samples import COLOURS, VALID_CALLS, draw_call, draw_samples

MOST = 10 ** 30 - 1

# Each with its text.
DRILLS = [
    ([], "-"),
    ([(1, "a", "b")], "1ab"),
    ([("all", "a", "b")], "allab"),
    ([("swap", "f", "e")], "swapfe"),
    ([(1, "a", "c"), ("swap", "a", "b")], "1ac swapab"),
    ([(20, "f", "a"), ("all", "e", "a"), ("all", "a", "e"), (10, "b", "c")], "20fa allea allae 10bc"),
    ([(100, "a", "b"), (9, "b", "a")], "100ab 9ba"),
    ([(10 ** 29, "a", "b")], "1" + "0" * 29 + "ab"),
    ([(MOST, "c", "d")] * 2, "9" * 30 + "cd " + "9" * 30 + "cd"),
    ([(1, "a", "b")] * 1000, "1ab " * 999 + "1ab"),
]

WRONG_CALLS = [
    "0ab", "1aa", "01ab", "00ab", "001ab", "-1ab", "+1ab", "1_0ab", "1.0ab", "1e1ab", " 1ab", "1 ab", "1a b", "1ab ",
    "1a", "1", "ab", "a", "aba", "1abc", "1ab2", "1ab1", "11", "1a1", "1ag", "1ga", "1Ab", "1aB", "1AB", "1gg",
    "allaa", "swapff", "all", "swap", "alla", "swapb", "alab", "alllab", "allag", "allga", "ALLab", "Allab",
    "Swapab", "swpab", "allswapab", "all ab", "swap ab", "1allab", "all1ab", "swap2ab", "-ab", "--", "-", "*ab", "~ab",
    "1,a,b", "1ab,", "(1ab)", "'1'ab", "abcdef", "0xaab", "0b1ab", "9" * 31 + "ab", "1" + "0" * 30 + "ab",
    "0" * 30 + "ab", "0" + "9" * 29 + "ab", "9" * 998 + "ab", "1ab\n", "1ab\t", "\u0661ab", "1\u0661ab", "\u00b2ab",
    "\uff11ab",
]

# Texts that no drill has, besides single wrong calls.
WRONG_DRILLS = [
    "", " ", "  ", "   ", "1ab  1ab", "1ab   1ab", " 1ab", "1ab ", " 1ab ", " -", "- ", "--", "- -", "1ab -", "- 1ab",
    "1ab,1ab", "1ab;1ab", "1ab1ab", "1ab\t1ab", "1ab\n1ab", "1ab\n", "\n", "[]", "None", "1ab 0ab", "0ab 1ab", "1ab  ",
    "  1ab", "1ab " * 1000,
]

COUNTS = [
    ([0, 0, 0, 0, 0, 0], "0,0,0,0,0,0"),
    ([2, 0, 0, 0, 0, 0], "2,0,0,0,0,0"),
    ([1, 2, 3, 4, 5, 6], "1,2,3,4,5,6"),
    ([10, 200, 3000, 0, 60, 7], "10,200,3000,0,60,7"),
    ([MOST, 0, 10 ** 29, 1, MOST - 1, 5], "9" * 30 + ",0,1" + "0" * 29 + ",1," + "9" * 29 + "8,5"),
    ([MOST] * 6, ",".join(["9" * 30] * 6)),
]

WRONG_NUMBERS = [
    "", " ", "-", "-1", "-0", "+1", "+0", "01", "00", "007", " 1", "1 ", "1 1", "1_0", "1.0", "1.", "1e1", "0x1", "a",
    "1a", "a1", "None", "9" * 31, "1" + "0" * 30, "0" * 30, "0" * 31, "0" + "9" * 29, "1" * 998, "1\n", "\n", "\t1",
    "\u0661", "\u00b2", "\uff11",
]

WRONG_COUNTS = [
    "", ",", ",,,,,", "0", "0,0,0,0,0", "0,0,0,0,0,0,0", "0,0,0,0,0,0,", ",0,0,0,0,0,0", "0,0,0,,0,0,0", "0,0,0,,0,0",
    "0;0;0;0;0;0", "0 0 0 0 0 0", "0, 0, 0, 0, 0, 0", "[0,0,0,0,0,0]", "0,0,0,0,0,0 ", " 0,0,0,0,0,0", "0.0.0.0.0.0",
    "0,0,0,0,0,0\n", "000000", "-", "1ab", "0,0,0,0,0,0,0,0,0,0,0,0",
]


class Examples(unittest.TestCase):
    def test_show_drill(self):
        self.assertEqual(show_drill([(1, 'a', 'c'), ('swap', 'a', 'b')]), '1ac swapab')

    def test_read_drill(self):
        with self.assertRaises(BadText) as raised:
            read_drill('01ab')
        self.assertEqual(raised.exception.value, '01ab')

    def test_show_counts(self):
        self.assertEqual(show_counts([2, 0, 0, 0, 0, 0]), '2,0,0,0,0,0')


class Interface(unittest.TestCase):
    def test_defined_in_their_files_with_these_arguments(self):
        for module, name, argument in [
            (texts, "show_drill", "drill"), (texts, "show_counts", "counts"),
            (readings, "read_drill", "text"), (readings, "read_counts", "text"),
        ]:
            found = getattr(module, name)
            self.assertTrue(inspect.isfunction(found))
            self.assertEqual(found.__module__, module.__name__)
            self.assertEqual(list(inspect.signature(found).parameters), [argument])

    def test_by_name(self):
        self.assertEqual(show_drill(drill=[(1, "a", "b")]), "1ab")
        self.assertEqual(show_counts(counts=[1, 2, 3, 4, 5, 6]), "1,2,3,4,5,6")
        self.assertEqual(read_drill(text="1ab"), [(1, "a", "b")])
        self.assertEqual(read_counts(text="1,2,3,4,5,6"), [1, 2, 3, 4, 5, 6])

    def test_kinds_of_values(self):
        for drill, text in DRILLS:
            self.assertIs(show_drill(drill).__class__, str)
            found = read_drill(text)
            self.assertIs(found.__class__, list)
            for call, (kind, _, _) in zip(found, drill):
                self.assertIs(call.__class__, tuple)
                self.assertEqual([part.__class__ for part in call], [kind.__class__, str, str])
        for counts, text in COUNTS:
            self.assertIs(show_counts(counts).__class__, str)
            found = read_counts(text)
            self.assertEqual([found.__class__, *[number.__class__ for number in found]], [list] + [int] * 6)


class Drills(unittest.TestCase):
    def test_fixed_texts(self):
        for drill, text in DRILLS:
            self.assertEqual(show_drill(drill), text)
            self.assertEqual(read_drill(text), drill)

    def test_every_pair_of_colours(self):
        for source in COLOURS:
            for target in COLOURS:
                if source != target:
                    for kind, word in [(1, "1"), (19, "19"), ("all", "all"), ("swap", "swap")]:
                        self.assertEqual(show_drill([(kind, source, target)]), word + source + target)
                        self.assertEqual(read_drill(word + source + target), [(kind, source, target)])

    def test_each_number_of_digits(self):
        for digits in range(1, 31):
            for number in (10 ** (digits - 1), 10 ** digits - 1):
                text = str(number) + "fe"
                self.assertEqual(show_drill([(number, "f", "e")]), text)
                self.assertEqual(read_drill(text), [(number, "f", "e")])

    def test_there_and_back(self):
        chance = random.Random("texts")
        for drill, _ in draw_samples("texts", 300):
            self.assertEqual(read_drill(show_drill(drill)), drill)
            long = [draw_call(chance, COLOURS, MOST) for _ in range(chance.randint(0, 100))]
            self.assertEqual(read_drill(show_drill(long)), long)

    def test_the_longest_text(self):
        text = " ".join(["allab"] * 666 + ["1ab"])
        self.assertEqual(len(text), 3999)
        self.assertEqual(show_drill(read_drill(text)), text)
        self.assertEqual(len(read_drill(text)), 667)


class Counts(unittest.TestCase):
    def test_fixed_texts(self):
        for counts, text in COUNTS:
            self.assertEqual(show_counts(counts), text)
            self.assertEqual(read_counts(text), counts)

    def test_each_number_of_digits_at_each_place(self):
        for digits in range(1, 31):
            for number in (10 ** (digits - 1), 10 ** digits - 1):
                for index in range(6):
                    counts = [0] * 6
                    counts[index] = number
                    text = ",".join(["0"] * index + [str(number)] + ["0"] * (5 - index))
                    self.assertEqual(show_counts(counts), text)
                    self.assertEqual(read_counts(text), counts)

    def test_there_and_back(self):
        chance = random.Random("counts")
        for _ in range(300):
            counts = [chance.randrange(10 ** chance.randint(0, 30)) for _ in range(6)]
            self.assertEqual(read_counts(show_counts(counts)), counts)


class WrongTexts(unittest.TestCase):
    def assert_raises(self, function, text):
        with self.assertRaises(BadText) as raised:
            function(text)
        self.assertIs(raised.exception.__class__, BadText)
        self.assertEqual(raised.exception.value, text)

    def test_wrong_calls(self):
        for word in WRONG_CALLS:
            # The word is the text of the empty drill when it stands alone.
            if word != "-":
                self.assert_raises(read_drill, word)
            self.assert_raises(read_drill, word + " 1ab")
            self.assert_raises(read_drill, "1ab " + word)
            self.assert_raises(read_drill, "allab " + word + " swapab")

    def test_wrong_drills(self):
        for text in WRONG_DRILLS:
            self.assert_raises(read_drill, text)

    def test_texts_of_counts_are_no_drills(self):
        for _, text in COUNTS:
            self.assert_raises(read_drill, text)

    def test_wrong_numbers_at_each_place(self):
        for word in WRONG_NUMBERS:
            for index in range(6):
                words = ["10"] * 6
                words[index] = word
                self.assert_raises(read_counts, ",".join(words))

    def test_wrong_counts(self):
        for text in WRONG_COUNTS:
            self.assert_raises(read_counts, text)

    def test_texts_of_drills_are_no_counts(self):
        for _, text in DRILLS:
            self.assert_raises(read_counts, text)

    def test_every_short_text(self):
        # Whatever is read is shown as it was.
        for text in short_texts("01ab- ", 5):
            try:
                drill = read_drill(text)
            except BadText as error:
                self.assertEqual(error.value, text)
            else:
                self.assertEqual(show_drill(drill), text)

    def test_every_short_text_of_a_valid_drill_is_read(self):
        found = []
        for text in short_texts("01ab- ", 5):
            try:
                found.append((text, read_drill(text)))
            except BadText:
                pass
        wanted = {"-": []}
        for number in [1, 10, 11, 100, 101, 110, 111]:
            wanted[f"{number}ab"] = [(number, "a", "b")]
            wanted[f"{number}ba"] = [(number, "b", "a")]
        self.assertEqual(dict(found), wanted)
        self.assertEqual(read_drill("1ab 1ba"), [(1, "a", "b"), (1, "b", "a")])


def short_texts(signs, longest):
    """Return every text of these signs up to a length."""
    level, told = [""], [""]
    for _ in range(longest):
        level = [text + sign for text in level for sign in signs]
        told.extend(level)
    return told


class UnchangedArguments(unittest.TestCase):
    def test_after_each_function(self):
        for drill in ([], VALID_CALLS):
            before = copy.deepcopy(drill)
            self.assertEqual(show_drill(drill), show_drill(drill))
            self.assertEqual(drill, before)
        counts = [1, 2, 3, 4, 5, 6]
        self.assertEqual(show_counts(counts), show_counts(counts))
        self.assertEqual(counts, [1, 2, 3, 4, 5, 6])

    def test_a_passed_list_is_not_kept(self):
        drill, counts = [(1, "a", "b")], [1, 2, 3, 4, 5, 6]
        self.assertEqual((show_drill(drill), show_counts(counts)), ("1ab", "1,2,3,4,5,6"))
        drill.append(("all", "a", "b"))
        counts[0] = 9
        self.assertEqual((show_drill(drill), show_counts(counts)), ("1ab allab", "9,2,3,4,5,6"))
        drill.clear()
        self.assertEqual(show_drill(drill), "-")

    def test_a_returned_list_is_free(self):
        for function, text in [(read_drill, "-"), (read_drill, "1ab allab"), (read_counts, "1,2,3,4,5,6")]:
            told = function(text)
            wanted = list(told)
            self.assertIsNot(function(text), told)
            told.append(7)
            told.reverse()
            self.assertEqual(function(text), wanted)
            told.clear()
            self.assertEqual(function(text), wanted)


if __name__ == "__main__":
    unittest.main()
