"""Finer and coarser sharings: meeting, joining, rises and the signed count."""

from sharings.errors import NotFiner, Unlike
from sharings.marks import ask_sharing, marked, shares_of


def ask_alike(one, other):
    ask_sharing(one)
    ask_sharing(other)
    if len(one) != len(other):
        raise Unlike("the sharings are of unlike numbers of things")


def ask_finer(one, other):
    if not is_finer(one, other):
        raise NotFiner("the second sharing is not coarser than the first")


def is_finer(one, other):
    # The meeting is the first sharing itself just where no share of the first is cut by the second.
    return meeting(one, other) == one


def meeting(one, other):
    ask_alike(one, other)
    return marked(list(zip(one, other)))


def joining(one, other):
    ask_alike(one, other)
    return climb(one, other)[-1]


def rise(one, other):
    ask_finer(one, other)
    # The joining of a sharing and a coarser one is the coarser one, so the climb ends there.
    return climb(one, other)


# A list of sharings from the first one to the joining of both, each a step from the one ahead.
def climb(one, other):
    climbed = [list(one)]
    for share in shares_of(other):
        for thing in share:
            now = climbed[-1]
            if now[thing] != now[share[0]]:
                climbed.append(stepped(now, now[share[0]], now[thing]))
    return climbed


def stepped(marks, kept, gone):
    return marked([kept if mark == gone else mark for mark in marks])


# For each share of the coarser sharing, how many shares of the finer one it is joined from.
# These numbers are all that rises and the signed count hang on: each share is joined apart from the others.
def joined_numbers(one, other):
    numbers = []
    for share in shares_of(other):
        numbers.append(len(set([one[thing] for thing in share])))
    return numbers


def many_rises(one, other):
    ask_finer(one, other)
    rises = 1
    steps_taken = 0
    for joined in joined_numbers(one, other):
        rises *= many_rises_to_one_share(joined)
        # The steps within this share may fall among those of the shares ahead in any way that keeps
        # both orders: a binomial, built up so that each division leaves no rest.
        for step in range(1, joined):
            steps_taken += 1
            rises = rises * steps_taken // step
    return rises


def many_rises_to_one_share(shares):
    rises = 1
    for left in range(2, shares + 1):
        rises *= left * (left - 1) // 2
    return rises


def signed(one, other):
    ask_finer(one, other)
    # From n shares to one share, the sum of point 7 comes to (n - 1)! with the sign turned n - 1 times,
    # and the count over several shares is the product; no sum over all sharings between is needed.
    count = 1
    for joined in joined_numbers(one, other):
        for number in range(1, joined):
            count = 0 - count * number
    return count
