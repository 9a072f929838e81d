"""Drills that are repeated, and the cycles that their rows reach."""

from drillrow.calls import run_calls
from drillrow.checks import check_drill, check_row, check_times


def walk_into_cycle(drill, row):
    """Return the rows after 0, 1, 2 .. runs up to the first repetition, and the index of the row that recurs."""
    found = {}
    while row not in found:
        found[row] = len(found)
        row = run_calls(drill, row)
    return list(found), found[row]


def list_seats(row):
    """Return the seat of each person, from the front."""
    return [(person, row[:index].count(person)) for index, person in enumerate(row)]


def follow_ring(following, seat):
    """Return the seats of a ring, from this one on."""
    ring = [seat]
    while following[ring[-1]] != seat:
        ring.append(following[ring[-1]])
    return ring


def repeat_drill(drill, row, times):
    """Return the row after that many runs of the drill."""
    check_drill(drill)
    check_row(row)
    check_times(times)
    rows, start = walk_into_cycle(drill, row)
    if times < start:
        return rows[times]
    return rows[start + (times - start) % (len(rows) - start)]


def find_cycle(drill, row):
    """Return how many runs lead into the cycle, and how many lead once around it."""
    check_drill(drill)
    check_row(row)
    rows, start = walk_into_cycle(drill, row)
    return start, len(rows) - start


def seat_map(drill, row):
    """Return the sorted pairs (seat, next seat) of the cycle of a row."""
    check_drill(drill)
    check_row(row)
    rows, start = walk_into_cycle(drill, row)
    cycle = rows[start:]
    turned = cycle[1:] + cycle[:1]
    return sorted({
        pair
        for before, after in zip(cycle, turned)
        for pair in zip(list_seats(before), list_seats(after))
    })


def seat_rings(drill, row):
    """Return the rings of the seat map, each from its smallest seat on, sorted."""
    following = {seat: after for seat, after in seat_map(drill, row)}
    rings = [follow_ring(following, seat) for seat in following]
    # Each ring came up from each of its seats. The map is sorted, so the rings that stay are sorted too.
    return [ring for ring in rings if ring[0] == min(ring)]
