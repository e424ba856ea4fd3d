"""How many sharings there are, and their numbers in the order of their marks."""

from sharings.errors import NoNumber
from sharings.marks import MOST_THINGS, ask_sharing, ask_things, sizes


# How many ways there are to mark so many further things, behind things that are in so many shares.
def many_ways_on(further, shares):
    # The entries tell the ways with no share more, one share more, two more and so on, at first where nothing
    # is left to mark: a further thing goes in one of the shares that are there or in a new one.
    ways = [1] * (further + 1)
    while len(ways) > 1:
        ways = [(shares + more) * ways[more] + ways[more + 1] for more in range(len(ways) - 1)]
    return ways[0]


def many(things):
    ask_things(things)
    return many_ways_on(things, 0)


def many_with(things, shares):
    ask_things(things)
    if shares < 0 or shares > MOST_THINGS:
        raise NoNumber("there are 0 to 12 shares")
    # The entries tell how many sharings have no share, one share and so on, of no thing at first.
    counts = [1] + [0] * MOST_THINGS
    for thing in range(things):
        counts = [0] + [number * counts[number] + counts[number - 1] for number in range(1, MOST_THINGS + 1)]
    return counts[shares]


def sharing_at(things, number):
    ask_things(things)
    if number < 0 or number >= many(things):
        raise NoNumber("no sharing has the number")
    marks = []
    shares = 0
    left = number
    for thing in range(things):
        # Each mark that is there already leaves as many ways on as another, so they stand ahead of the
        # new mark in runs of one length.
        run = many_ways_on(things - thing - 1, shares)
        mark = min(left // run, shares)
        left -= mark * run
        shares = max(shares, mark + 1)
        marks.append(mark)
    return marks


def number_of(one):
    ask_sharing(one)
    number = 0
    shares = 0
    for thing, mark in enumerate(one):
        number += mark * many_ways_on(len(one) - thing - 1, shares)
        shares = max(shares, mark + 1)
    return number


def many_finer(one):
    # A finer sharing parts each share apart from the others.
    count = 1
    for size in sizes(one):
        count *= many(size)
    return count


def many_coarser(one):
    # A coarser sharing is a sharing of the shares.
    return many(len(sizes(one)))
