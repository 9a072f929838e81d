"""The checks of the arguments that the functions of the package share."""

from drillrow.errors import BadCall, BadColour, BadCounts, BadRow, BadTimes

# A tuple, not a string: the empty string and "ab" are in "abcdef" as well.
COLOURS = ("a", "b", "c", "d", "e", "f")


def is_colour(text):
    """Tell whether a string is one of the six colours."""
    return text in COLOURS


def is_kind(kind):
    """Tell whether an integer or a string is the kind of a valid call."""
    if isinstance(kind, str):
        return kind in ("all", "swap")
    return kind >= 1


def is_call(call):
    """Tell whether a tuple (kind, source, target) is a valid call."""
    kind, source, target = call
    return is_kind(kind) and is_colour(source) and is_colour(target) and source != target


def check_row(row):
    """Raise BadRow with the index of the first character that is not a colour."""
    for index, person in enumerate(row):
        if not is_colour(person):
            raise BadRow(index)


def check_drill(drill):
    """Raise BadCall with the index of the first invalid call."""
    for index, call in enumerate(drill):
        if not is_call(call):
            raise BadCall(index)


def check_counts(counts):
    """Raise BadCounts with None unless there are six, else with the first negative index."""
    if len(counts) != len(COLOURS):
        raise BadCounts(None)
    for index, count in enumerate(counts):
        if count < 0:
            raise BadCounts(index)


def check_colour(colour):
    """Raise BadColour with the string if it is not a colour."""
    if not is_colour(colour):
        raise BadColour(colour)


def check_times(times):
    """Raise BadTimes with the number of repetitions if it is negative."""
    if times < 0:
        raise BadTimes(times)
