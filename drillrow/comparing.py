"""Two drills compared on all rows."""

from drillrow.arrivals import count_repeats, meet_drill, nobody_met
from drillrow.checks import check_drill


def list_colours(drill):
    """Return the colours that a drill names, in order."""
    return sorted({colour for call in drill for colour in call[1:]})


def add_persons(first, second, colours, level):
    """Return each row of a level with each person who may come next, and how both drills treat that person."""
    return [
        (row + colour, meet_drill(first, one, colour), meet_drill(second, two, colour))
        for row, one, two in level
        for colour in colours
    ]


def parting_row(first, second):
    """Return the shortest row that the drills treat differently, the first such one in order, or None."""
    check_drill(first)
    check_drill(second)
    # Nobody else is needed: both drills leave the other colours alone and do not count them.
    colours = list_colours(first + second)
    first = count_repeats(first)
    second = count_repeats(second)
    level = [("", nobody_met(first), nobody_met(second))]
    seen = set()
    while level:
        longer = add_persons(first, second, colours, level)
        level = []
        for row, (after, one), (other, two) in longer:
            if after != other:
                return row
            # A row that leaves both drills where an earlier one left them parts them no earlier.
            if (one, two) not in seen:
                seen.add((one, two))
                level.append((row, one, two))
    return None
