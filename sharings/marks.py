"""A sharing told by its marks, by its shares, and the sizes of its shares."""

from sharings.errors import NoShares, NoSharing, NoThings

MOST_THINGS = 12


def is_many_things(number):
    return number >= 1 and number <= MOST_THINGS


def ask_things(things):
    if not is_many_things(things):
        raise NoThings("there are 1 to 12 things")


def is_sharing(one):
    if not is_many_things(len(one)):
        return False
    shares_ahead = 0
    for mark in one:
        if mark < 0 or mark > shares_ahead:
            return False
        if mark == shares_ahead:
            shares_ahead += 1
    return True


def ask_sharing(one):
    if not is_sharing(one):
        raise NoSharing("the list is not the marks of a sharing")


# Labels may be anything that a dict takes as a key: only which of them are alike counts.
# A share is met first at its least thing, so marks given out in that order are in the order asked for.
def marked(labels):
    marks_given = {}
    marks = []
    for label in labels:
        marks.append(marks_given.setdefault(label, len(marks_given)))
    return marks


def shares_of(one):
    ask_sharing(one)
    shares = [[] for mark in range(max(one) + 1)]
    for thing, mark in enumerate(one):
        shares[mark].append(thing)
    return shares


def are_shares(shares):
    things = []
    for share in shares:
        if len(share) == 0:
            return False
        things.extend(share)
    if not is_many_things(len(things)):
        return False
    return sorted(things) == list(range(len(things)))


def marks_of(shares):
    if not are_shares(shares):
        raise NoShares("the lists are not the shares of a sharing")
    share_numbers = {}
    for number, share in enumerate(shares):
        for thing in share:
            share_numbers[thing] = number
    return marked([share_numbers[thing] for thing in range(len(share_numbers))])


def sizes(one):
    return sorted([len(share) for share in shares_of(one)], reverse=True)
