"""Calls and drills on the counts of a row."""

from drillrow.checks import COLOURS, check_colour, check_counts, check_drill, check_row


def count_of(counts, colour):
    """Return how many people wear a colour."""
    return counts[COLOURS.index(colour)]


def count_movers(kind, wearers):
    """Return how many of the wearers of its source a call of this kind recolours."""
    if kind == "all" or kind == "swap":
        return wearers
    return 1 if wearers >= kind else 0


def move_counts(call, counts):
    """Return new counts after one valid call."""
    kind, source, target = call
    gone = count_movers(kind, count_of(counts, source))
    back = count_of(counts, target) if kind == "swap" else 0
    after = list(counts)
    after[COLOURS.index(source)] += back - gone
    after[COLOURS.index(target)] += gone - back
    return after


def colour_after_call(call, ahead, colour):
    """Return what a person with these counts ahead wears after one valid call."""
    kind, source, target = call
    if kind == "swap" and colour == target:
        return source
    if colour != source:
        return colour
    if kind == "all" or kind == "swap":
        return target
    # The call reaches the person who has kind - 1 wearers of the source ahead.
    return target if count_of(ahead, source) == kind - 1 else colour


def count_colours(row):
    """Return the counts of a row."""
    check_row(row)
    return [row.count(colour) for colour in COLOURS]


def run_on_counts(drill, counts):
    """Return the counts after a drill of any row with these counts."""
    check_drill(drill)
    check_counts(counts)
    after = list(counts)
    for call in drill:
        after = move_counts(call, after)
    return after


def colour_after(drill, ahead, colour):
    """Return what a person with these counts ahead wears after a drill."""
    check_drill(drill)
    check_counts(ahead)
    check_colour(colour)
    for call in drill:
        # The call that may reach the person finds the counts that the calls before it left.
        colour = colour_after_call(call, ahead, colour)
        ahead = move_counts(call, ahead)
    return colour
