"""The rows that a drill turns into a given row."""

from drillrow.arrivals import count_repeats, meet_drill, nobody_met
from drillrow.checks import COLOURS, check_drill, check_row


def add_person(repeats, ways, wanted):
    """Return the ways with one more person behind, who wears the wanted colour after the drill."""
    longer = {}
    for met, many in ways.items():
        for colour in COLOURS:
            after, numbers = meet_drill(repeats, met, colour)
            if after == wanted:
                longer[numbers] = longer.get(numbers, 0) + many
    return longer


def count_predecessors(drill, row):
    """Return how many rows the drill turns into this row."""
    check_drill(drill)
    check_row(row)
    repeats = count_repeats(drill)
    # How many beginnings of rows there are, by all that the drill knows of them.
    ways = {nobody_met(repeats): 1}
    for person in row:
        ways = add_person(repeats, ways, person)
    return sum(ways.values())
