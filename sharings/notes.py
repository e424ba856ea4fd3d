"""Sharings as they are written and read."""

from sharings.errors import NotRead
from sharings.marks import MOST_THINGS, are_shares, marks_of, shares_of


def shown(one):
    return "/".join([shown_share(share) for share in shares_of(one)])


def shown_share(share):
    return " ".join([str(thing) for thing in share])


def read(text):
    shares = [read_share(part) for part in text.split("/")]
    if not are_shares(shares):
        raise NotRead("the text does not tell each thing once")
    marks = marks_of(shares)
    # Shares or things in another order tell a sharing as well, but are not how it is written.
    if shown(marks) != text:
        raise NotRead("the things or shares of the text are not in order")
    return marks


def read_share(part):
    # Held against the written numbers, and not turned to a number first: noughts ahead, signs and blanks are out.
    written = [str(thing) for thing in range(MOST_THINGS)]
    share = []
    for word in part.split(" "):
        if word not in written:
            raise NotRead("the text holds something else than things")
        share.append(written.index(word))
    return share
