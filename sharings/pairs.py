"""The sharing of some pairs, ways by pairs, and pairs that are told together or apart."""

from sharings.errors import NoThing, NoWay
from sharings.marks import ask_things
from sharings.order import stepped


def ask_thing(things, thing):
    if thing < 0 or thing >= things:
        raise NoThing("there is no such thing")


def ask_pairs(things, pairs):
    for pair in pairs:
        ask_thing(things, pair[0])
        ask_thing(things, pair[1])


def sharing_of(things, pairs):
    ask_things(things)
    ask_pairs(things, pairs)
    marks = list(range(things))
    for pair in pairs:
        marks = stepped(marks, marks[pair[0]], marks[pair[1]])
    return marks


def way_by(things, pairs, one, other):
    ask_things(things)
    ask_pairs(things, pairs)
    ask_thing(things, one)
    ask_thing(things, other)
    ways = ways_from(things, pairs, one)
    if other not in ways:
        raise NoWay("no way by the pairs leads there")
    return ways[other]


# For each thing that can be come to from the first one, a way there.
def ways_from(things, pairs, first):
    ways = {first: []}
    # As long as a thing more can be come to, each walk over the pairs comes to one more at least.
    for walk in range(things - 1):
        for number, pair in enumerate(pairs):
            go_on(ways, number, pair[0], pair[1])
            go_on(ways, number, pair[1], pair[0])
    return ways


def go_on(ways, number, come_to, led_to):
    if come_to in ways and led_to not in ways:
        ways[led_to] = ways[come_to] + [number]


def judged(things, together, apart):
    marks = sharing_of(things, together)
    ask_pairs(things, apart)
    for number, pair in enumerate(apart):
        if marks[pair[0]] == marks[pair[1]]:
            return ("clash", number, way_by(things, together, pair[0], pair[1]))
    return ("sharing", marks)
