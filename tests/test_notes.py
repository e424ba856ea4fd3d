"""Point 12."""

import re
import unittest
from itertools import product

from sharings.errors import NotRead
from sharings.marks import shares_of
from sharings.notes import read, shown
from tests.helper import ALONE, OF_TWELVE, TOGETHER, all_sharings

# Every sign that a text may hold.
SIGNS = ["\t", "\n", "\r"] + [chr(code) for code in range(ord(" "), ord("~") + 1) if chr(code) != "%"]
NUMBER = "(0|[1-9][0-9]*)"


def read_by_words(text):
    """The marks that a text tells, or None: held against the words of points 3 and 12, without putting it together."""
    if not re.fullmatch(f"{NUMBER}([ /]{NUMBER})*", text):
        return None
    shares = [[int(thing) for thing in share.split(" ")] for share in text.split("/")]
    marks = {thing: mark for mark, share in enumerate(shares) for thing in share}
    rising = all(sorted(share) == share for share in shares) and sorted(shares) == shares
    if not rising or sorted(sum(shares, [])) != list(range(len(marks))) or len(marks) > 12:
        return None
    return [marks[thing] for thing in range(len(marks))]


def nearly(text):
    """Each text with one sign left out, put in or turned to another."""
    for place in range(len(text) + 1):
        for sign in SIGNS:
            yield text[:place] + sign + text[place:]
            if place < len(text):
                yield text[:place] + sign + text[place + 1:]
        yield text[:place] + text[place + 1:]


class Shown(unittest.TestCase):
    def test_ordinary(self):
        self.assertEqual(shown([0, 1, 0]), "0 2/1")
        self.assertEqual(shown([0]), "0")
        self.assertEqual(shown([0, 1, 1, 2, 0]), "0 4/1 2/3")

    def test_twelve_things(self):
        self.assertEqual(shown(ALONE), "0/1/2/3/4/5/6/7/8/9/10/11")
        self.assertEqual(shown(TOGETHER), "0 1 2 3 4 5 6 7 8 9 10 11")
        self.assertEqual(shown([0, 1, 2, 3, 4, 5, 5, 4, 3, 2, 1, 0]), "0 11/1 10/2 9/3 8/4 7/5 6")

    def test_against_the_words(self):
        for one in all_sharings(6) + OF_TWELVE:
            text = shown(one)
            self.assertIs(type(text), str)
            self.assertEqual(read_by_words(text), one)

    def test_argument_name(self):
        self.assertEqual(shown(one=[0, 0]), "0 1")


class Read(unittest.TestCase):
    def check(self, text):
        marks = read_by_words(text)
        if marks is None:
            with self.assertRaises(NotRead, msg=repr(text)):
                read(text)
        else:
            self.assertEqual(read(text), marks, repr(text))

    def test_ordinary(self):
        self.assertEqual(read("0 2/1"), [0, 1, 0])
        self.assertEqual(read("0"), [0])
        self.assertEqual(read("0 11/1 10/2 9/3 8/4 7/5 6"), [0, 1, 2, 3, 4, 5, 5, 4, 3, 2, 1, 0])

    def test_there_and_back(self):
        for things in range(1, 7):
            for one in all_sharings(things):
                self.assertEqual(read(shown(one)), one)
                self.assertEqual(shown(read(shown(one))), shown(one))

    def test_there_and_back_at_twelve_things(self):
        for one in OF_TWELVE:
            self.assertEqual(read(shown(one)), one)

    def test_what_is_nearly_one(self):
        for one in [one for things in (1, 2, 3, 4) for one in all_sharings(things)] + OF_TWELVE:
            for text in nearly(shown(one)):
                self.check(text)

    def test_all_short_texts(self):
        for length in range(8):
            for signs in product("012 /", repeat=length):
                self.check("".join(signs))

    def test_refused(self):
        wrong = ["", " ", "/", "//", "\t", "\n", "0 ", " 0", "/0", "0/", "0\n", "\n0", "0\t", "0\t1", "0\n1", "0\r\n",
                 "00", "01", "0 01", "0/01", "0 1/02", "000", "0  1", "0 /1", "0/ 1", "0 / 1", "0//1", "0/1/", "0/1 ",
                 "1", "1/0", "1 0", "0 2 1", "1/0 2", "2 0/1", "0 2", "0/2", "0 0", "0/0", "0 1/1", "0 1/0", "0,1",
                 "0 1 3", "0/1/3", "-0", "+0", "-1", "0 -1", "0 +1", "0_1", "0 1_0", "0x0", "0.0", "0e0", "0\\1",
                 "0|1", "[0]", "(0, 1)", "'0'", "a", "zero", "0 one", "0 1 2 3 4 5 6 7 8 9 10 11 12", "12", "0 12",
                 "0/1/2/3/4/5/6/7/8/9/10/11/12", "0/1/2/3/4/5/6/7/8/9/1/0", "0 1 2 3 4 5 6 7 8 9 11 10",
                 "0/1/10/11/2/3/4/5/6/7/8/9", "0 10 11 1 2 3 4 5 6 7 8 9", "0 " + "9" * 60, "0" * 80, "9" * 80,
                 " " * 80, "/" * 80, "0/" * 40, "0 1 " * 20, "0" + " " * 79, "1" * 200]
        for text in wrong:
            with self.subTest(text):
                self.assertIsNone(read_by_words(text))
                with self.assertRaises(NotRead):
                    read(text)

    def test_shares_in_another_order(self):
        for one in all_sharings(5) + OF_TWELVE:
            shares = shares_of(one)
            for turned in (shares[::-1], shares[1:] + shares[:1]):
                text = "/".join(" ".join(map(str, share)) for share in turned)
                self.check(text)
                if turned != shares:
                    with self.assertRaises(NotRead):
                        read(text)

    def test_things_of_a_share_in_another_order(self):
        for one in all_sharings(5) + OF_TWELVE:
            shares = [share[::-1] for share in shares_of(one)]
            text = "/".join(" ".join(map(str, share)) for share in shares)
            self.check(text)
            if shares != shares_of(one):
                with self.assertRaises(NotRead):
                    read(text)

    def test_argument_name(self):
        self.assertEqual(read(text="0"), [0])


if __name__ == "__main__":
    unittest.main()
