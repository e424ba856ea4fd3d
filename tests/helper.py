"""What the tests measure the program by, written from the document's words without the program."""

from itertools import combinations, permutations

ALONE = list(range(12))
TOGETHER = [0] * 12

# Sharings of twelve things that are unlike in shape.
OF_TWELVE = [
    ALONE,
    TOGETHER,
    [0, 0, 1, 1, 2, 2, 3, 3, 4, 4, 5, 5],
    [0, 1, 1, 2, 2, 3, 3, 4, 4, 5, 5, 0],
    [0, 0, 0, 0, 0, 0, 1, 1, 1, 1, 1, 1],
    [0, 1, 0, 1, 0, 1, 0, 1, 0, 1, 0, 1],
    [0, 1, 2, 0, 1, 2, 0, 1, 2, 0, 1, 2],
    [0, 1, 2, 3, 4, 5, 5, 4, 3, 2, 1, 0],
    [0, 1, 2, 2, 2, 3, 4, 5, 6, 7, 1, 8],
    [0, 1, 2, 3, 4, 5, 6, 7, 8, 9, 10, 0],
    [0, 1, 2, 3, 4, 5, 6, 7, 8, 9, 10, 10],
    [0, 1, 1, 1, 1, 1, 1, 1, 1, 1, 1, 1],
]

NO_SHARINGS = [
    [],
    [0] * 13,
    list(range(13)),
    [0] * 60,
    [1],
    [1, 0],
    [2, 0, 1],
    [-1],
    [-1, 0],
    [0, -1],
    [0, 1, -1],
    [0, 1, 0, -1, 1],
    [0, 2],
    [0, 2, 1],
    [0, 0, 2],
    [0, 1, 3],
    [0, 1, 0, 3, 2],
    [0, 1, 2, 3, 4, 5, 6, 7, 8, 9, 10, 12],
    [0, 10 ** 59],
    [0, -(10 ** 59)],
]

# How many sharings there are of 1 to 12 things, from tables of the Bell numbers.
COUNTS = [1, 2, 5, 15, 52, 203, 877, 4140, 21147, 115975, 678570, 4213597]

# Numbers far beyond all that a number of things, a thing or a number of a sharing may be.
FAR = [10 ** 59, 10 ** 60 - 1, -(10 ** 59), 1 - 10 ** 60]

NO_SHARES = [
    [],
    [[]],
    [[], []],
    [[], [0]],
    [[0], []],
    [[0, 1], [], [2]],
    [[0, 0]],
    [[0], [0]],
    [[0, 1], [1]],
    [[0, 1], [1, 2]],
    [[1]],
    [[0, 2]],
    [[0], [2]],
    [[0, 1], [3, 4]],
    [[-1]],
    [[-1, 0]],
    [[0], [1, -1]],
    [[0, 1, 3]],
    [[0], [1], [10 ** 59]],
    [[-(10 ** 59)], [0]],
    [list(range(13))],
    [[thing] for thing in range(13)],
    [list(range(60))],
]


def all_sharings(things):
    sharings = [[0]]
    for _ in range(1, things):
        sharings = [one + [mark] for one in sharings for mark in range(max(one) + 2)]
    return sharings


def pairs_together(one):
    return {pair for pair in permutations(range(len(one)), 2) if one[pair[0]] == one[pair[1]]}


def finer_by_pairs(one, other):
    return pairs_together(one) <= pairs_together(other)


def marks_by_pairs(things, together):
    """The marks of the sharing in which just these pairs are together."""
    marks = []
    for thing in range(things):
        ahead = [marks[less] for less in range(thing) if (less, thing) in together]
        marks.append(ahead[0] if ahead else max(marks, default=-1) + 1)
    return marks


def closed(things, together):
    """These pairs, and all that follow from them by going on from pair to pair."""
    together = set(together)
    for between in range(things):
        for one, other in permutations(range(things), 2):
            if (one, between) in together and (between, other) in together:
                together.add((one, other))
    return together


def all_steps(one):
    """All sharings that are a step from this one."""
    steps = []
    for first, second in combinations(sorted(set(one)), 2):
        merged = [first if mark == second else mark for mark in one]
        steps.append(marks_by_pairs(len(one), pairs_together(merged)))
    return steps


def marks_by_search(things, pairs):
    """The marks of the sharing of some pairs, by a search from each thing for all that it is bound to."""
    return marks_by_pairs(things, closed(things, set(pairs) | {(second, first) for first, second in pairs}))


def walked(pairs, way, thing):
    """The thing that is come to by a way, from a thing on; None if a pair has not the thing that was come to."""
    for number in way:
        if number not in range(len(pairs)) or thing not in pairs[number]:
            return None
        first, second = pairs[number]
        thing = second if thing == first else first
    return thing


def lists_within(value):
    """Every list in a value, the value itself too, each as often as it stands there."""
    if not isinstance(value, (list, tuple)):
        return []
    found = [value] if isinstance(value, list) else []
    for entry in value:
        found.extend(lists_within(entry))
    return found
