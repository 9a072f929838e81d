"""What several tests use: a slow model of calls, invalid arguments and drawn samples."""

import itertools
import random

COLOURS = "abcdef"

INVALID_CALLS = [
    (0, "a", "b"),
    (-1, "a", "b"),
    (-10 ** 20, "a", "b"),
    ("", "a", "b"),
    ("ALL", "a", "b"),
    ("al", "a", "b"),
    ("alls", "a", "b"),
    ("swap ", "a", "b"),
    ("allswap", "a", "b"),
    ("1", "a", "b"),
    ("a", "a", "b"),
    (1, "g", "b"),
    (1, "a", "g"),
    (1, "A", "b"),
    (1, "a", "B"),
    (1, "", "b"),
    (1, "a", ""),
    (1, "ab", "c"),
    (1, "c", "ab"),
    ("all", "abcdef", "a"),
    ("swap", "a", "1"),
    ("all", " ", "b"),
    ("swap", "`", "b"),
    (1, "a", "a"),
    (20, "f", "f"),
    ("all", "c", "c"),
    ("swap", "d", "d"),
    (1, "g", "g"),
]

# What may not stand in a row.
WRONG_CHARACTERS = "gzAF01`- \n"

VALID_CALLS = [(1, "a", "b"), ("all", "b", "c"), ("swap", "e", "f"), (20, "f", "a")]


def drills_with_one_fault():
    """Return pairs (drill, index of its only invalid call): first, middle and last index."""
    pairs = []
    for call in INVALID_CALLS:
        pairs.append(([call], 0))
        for index in (0, 2, len(VALID_CALLS)):
            pairs.append((VALID_CALLS[:index] + [call] + VALID_CALLS[index:], index))
    return pairs


def rows_with_one_fault():
    """Return pairs (row, index of its only wrong character): first, middle and last index."""
    pairs = []
    for wrong in WRONG_CHARACTERS:
        for index in range(7):
            pairs.append(("abcdef"[:index] + wrong + "abcdef"[index:], index))
    return pairs


def model_call(call, row):
    """Apply one call to a row, person by person, in the words of the document."""
    kind, source, target = call
    after = []
    met = 0
    for person in row:
        met += person == source
        if kind == "swap" and person == target:
            after.append(source)
        elif person == source and (kind in ("all", "swap") or met == kind):
            after.append(target)
        else:
            after.append(person)
    return "".join(after)


def model_drill(drill, row):
    """Apply a drill to a row by the model."""
    for call in drill:
        row = model_call(call, row)
    return row


def model_walk(drill, row):
    """Return the rows after 0, 1, 2 .. runs until one occurs again, and the first index of that one."""
    rows = []
    while row not in rows:
        rows.append(row)
        row = model_drill(drill, row)
    return rows, rows.index(row)


def rows_of(length, colours):
    """Return every row of these colours with this length, in string order."""
    return ["".join(row) for row in itertools.product(sorted(colours), repeat=length)]


def rows_up_to(length, colours):
    """Return every row of these colours with at most this length, shorter ones first."""
    return [row for size in range(length + 1) for row in rows_of(size, colours)]


def draw_call(chance, colours, highest):
    """Draw a valid call of these colours with m up to highest."""
    kind = chance.choice([1, chance.randint(1, highest), chance.randint(1, highest), "all", "swap"])
    source, target = chance.sample(colours, 2)
    return (kind, source, target)


def draw_samples(seed, many):
    """Draw pairs (drill, row); the seed makes them the same in every run."""
    chance = random.Random(seed)
    samples = []
    for _ in range(many):
        colours = chance.sample(COLOURS, chance.randint(2, 6))
        length = chance.choice([0, 1, 2, 5, 12, 60])
        row = "".join(chance.choice(colours) for _ in range(length))
        drill = [draw_call(chance, colours, chance.choice([2, 4, 20])) for _ in range(chance.randint(0, 8))]
        samples.append((drill, row))
    return samples
