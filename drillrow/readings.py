"""Drills and counts that are read from their texts."""

from drillrow.checks import COLOURS, is_call
from drillrow.errors import BadText

MOST_DIGITS = 30


def is_number(word):
    """Tell whether a word is a number as the texts have it: not too long and without leading zeros."""
    # Strings hold more digits than the ten of ASCII.
    if not word.isascii() or not word.isdigit() or len(word) > MOST_DIGITS:
        return False
    return word == "0" or not word.startswith("0")


def split_call(word):
    """Return the kind, the source and the target that a word consists of; they need not be a valid call."""
    kind = word[:-2]
    return (int(kind) if is_number(kind) else kind), word[-2:-1], word[-1:]


def read_drill(text):
    """Return the drill that has this text."""
    if text == "-":
        return []
    drill = [split_call(word) for word in text.split(" ")]
    if not all([is_call(call) for call in drill]):
        raise BadText(text)
    return drill


def read_counts(text):
    """Return the counts that have this text."""
    words = text.split(",")
    if len(words) != len(COLOURS) or not all([is_number(word) for word in words]):
        raise BadText(text)
    return [int(word) for word in words]
