"""What people wear after a drill, one after the other from the front.

A drill treats a person by what the people ahead left of its numbered calls, and by nothing else: a call
(m, x, y) must know how many people ahead wore x when it ran, and need not know more once there were m. So a
tuple of these numbers stands for all people ahead, however many they are. Equal calls in a row share a number.
"""

from drillrow.calls import run_calls


def count_repeats(drill):
    """Return the calls of a drill as pairs (call, times), equal ones in a row as one pair.

    A plan between two rows has a thousand calls and more, but few pairs.
    """
    repeats = []
    for call in drill:
        if repeats and repeats[-1][0] == call:
            repeats[-1] = (call, repeats[-1][1] + 1)
        else:
            repeats.append((call, 1))
    return repeats


def nobody_met(repeats):
    """Return the numbers of the pairs before anyone arrives."""
    return (0,) * len(repeats)


def meet_call(call, times, met, colour):
    """Return what the next person wears after a call that runs so many times, and its number then."""
    kind, source, target = call
    if kind == "all" or kind == "swap":
        return run_calls([call] * times, colour), met
    # Each time takes a wearer out of the way of the next time, so the call reaches as many in a row.
    last = kind + times - 1
    if colour != source or met == last:
        return colour, met
    # The number never passes the last one, so all that no later person can tell apart share one tuple.
    met += 1
    return (target if met >= kind else colour), met


def meet_drill(repeats, met, colour):
    """Return what the next person wears after the calls of the pairs, and the numbers of the pairs then."""
    numbers = []
    for (call, times), number in zip(repeats, met):
        colour, after = meet_call(call, times, number, colour)
        numbers.append(after)
    return colour, tuple(numbers)
