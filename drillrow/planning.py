"""The fewest calls that turn a row of two colours into another one."""

from drillrow.checks import check_row
from drillrow.errors import BadGoal


def check_goal(row, goal):
    """Raise BadRow for the row, else for the goal, else BadGoal if no calls of two colours lead there."""
    check_row(row)
    check_row(goal)
    if len(row) != len(goal) or len(set(row + goal)) > 2:
        raise BadGoal(None)


def last_difference(row, goal):
    """Return the last index at which two rows of one length differ, or -1."""
    return max([index for index, person in enumerate(row) if person != goal[index]], default=-1)


def plan_calls(row, goal):
    """Return a shortest list of calls (1, x, y) that turns the row into the goal."""
    check_goal(row, goal)
    last = last_difference(row, goal)
    # A call (1, x, y) reaches a person when everyone ahead wears y. So the last one who must change makes everyone
    # ahead wear the same, and from there each one who must differ from the next one makes all ahead change once more.
    calls = [(1, person, goal[last]) for person in row[:last + 1] if person != goal[last]]
    for index in reversed(range(last)):
        if goal[index] != goal[index + 1]:
            calls.extend([(1, goal[index + 1], goal[index])] * (index + 1))
    return calls


def fewest_calls(row, goal):
    """Return the smallest number of calls (1, x, y) that turn the row into the goal."""
    return len(plan_calls(row, goal))
