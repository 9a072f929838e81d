"""Calls and drills on rows."""

from drillrow.checks import check_drill, check_row


def find_wearer(row, number, colour):
    """Return the index of the person who is that number from the front in a colour, or -1."""
    index = -1
    for _ in range(number):
        index = row.find(colour, index + 1)
        if index < 0:
            return -1
    return index


def recolour_one(row, number, source, target):
    """Return the row after the call (number, source, target)."""
    index = find_wearer(row, number, source)
    if index < 0:
        return row
    return row[:index] + target + row[index + 1:]


def swap_colours(row, source, target):
    """Return the row with two colours exchanged."""
    after = {source: target, target: source}
    return "".join([after.get(person, person) for person in row])


def run_call(call, row):
    """Return the row after one valid call."""
    kind, source, target = call
    if kind == "all":
        return row.replace(source, target)
    if kind == "swap":
        return swap_colours(row, source, target)
    return recolour_one(row, kind, source, target)


def run_calls(drill, row):
    """Return the row after a valid drill; for those who run it often, without the checks."""
    for call in drill:
        row = run_call(call, row)
    return row


def run_drill(drill, row):
    """Return the row after the drill."""
    check_drill(drill)
    check_row(row)
    return run_calls(drill, row)
