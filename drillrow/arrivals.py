"""What people wear after a drill, one after the other from the front.

A drill treats a person by what the people ahead left of its numbered calls, and by nothing else: a call
(m, x, y) must know how many people ahead wore x when it ran, and need not know more once there were m. So a
tuple of these numbers, one per call, stands for all people ahead, however many they are.
"""

from drillrow.calls import run_call


def nobody_met(drill):
    """Return the numbers of the calls before anyone arrives."""
    return (0,) * len(drill)


def meet_call(call, met, colour):
    """Return what the next person wears after one valid call, and the call's number then."""
    kind, source, target = call
    if kind == "all" or kind == "swap":
        return run_call(call, colour), met
    if colour != source or met == kind:
        return colour, met
    # The number never passes the call's kind, so all that no later person can tell apart share one tuple.
    met += 1
    return (target if met == kind else colour), met


def meet_drill(drill, met, colour):
    """Return what the next person wears after a valid drill, and the numbers of its calls then."""
    numbers = []
    for call, number in zip(drill, met):
        colour, after = meet_call(call, number, colour)
        numbers.append(after)
    return colour, tuple(numbers)
