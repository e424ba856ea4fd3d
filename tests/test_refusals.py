"""Point 13: each refusal at each call that it is due at, and the order where two are due."""

import unittest

from sharings.errors import (NoNumber, NoShares, NoSharing, NotFiner, NoThing, NoThings, NotRead, NoWay, ShareError,
                             Unlike)
from sharings.marks import marks_of, shares_of, sizes
from sharings.notes import read, shown
from sharings.numbers import many, many_coarser, many_finer, many_with, number_of, sharing_at
from sharings.order import is_finer, joining, many_rises, meeting, rise, signed
from sharings.pairs import judged, sharing_of, way_by
from tests.helper import COUNTS, FAR, NO_SHARES, NO_SHARINGS

NO_MANY = [0, -1, -12, 13, 14, 60] + FAR
NO_MANY_SHARES = [-1, -12, 13, 14, 60] + FAR

OF_ONE = [shares_of, sizes, number_of, many_finer, many_coarser, shown]
OF_TWO = [is_finer, meeting, joining, rise, many_rises, signed]


def no_things_of(things):
    """Numbers that no thing of so many has."""
    return [-1, -things, -12, things, things + 1, 12, 13] + FAR


class Refusals(unittest.TestCase):
    def refuses(self, refusal, function, *handed):
        with self.subTest(function=function.__name__, handed=handed):
            with self.assertRaises(ShareError) as caught:
                function(*handed)
            self.assertIs(type(caught.exception), refusal)

    def test_no_things(self):
        for things in NO_MANY:
            self.refuses(NoThings, many, things)
            self.refuses(NoThings, many_with, things, 1)
            self.refuses(NoThings, sharing_at, things, 0)
            self.refuses(NoThings, sharing_of, things, [])
            self.refuses(NoThings, way_by, things, [], 0, 0)
            self.refuses(NoThings, judged, things, [], [])

    def test_no_sharing(self):
        for wrong in NO_SHARINGS + [[number] for number in FAR]:
            for function in OF_ONE:
                self.refuses(NoSharing, function, wrong)
            for function in OF_TWO:
                self.refuses(NoSharing, function, wrong, [0])
                self.refuses(NoSharing, function, [0], wrong)

    def test_no_shares(self):
        for wrong in NO_SHARES + [[[0, number]] for number in FAR]:
            self.refuses(NoShares, marks_of, wrong)

    def test_unlike(self):
        for function in OF_TWO:
            self.refuses(Unlike, function, [0, 1], [0, 0, 0])

    def test_not_finer(self):
        for function in (rise, many_rises, signed):
            self.refuses(NotFiner, function, [0, 0, 1], [0, 1, 1])

    def test_no_thing_in_a_pair(self):
        for things in range(1, 13):
            for wrong in no_things_of(things):
                if wrong in range(things):
                    continue
                for pair in ((0, wrong), (wrong, 0), (wrong, wrong)):
                    for pairs in ([pair], [(0, 0), pair], [pair, (0, 0)]):
                        self.refuses(NoThing, sharing_of, things, pairs)
                        self.refuses(NoThing, way_by, things, pairs, 0, 0)
                        self.refuses(NoThing, judged, things, pairs, [])
                        self.refuses(NoThing, judged, things, [], pairs)

    def test_no_thing_at_an_end_of_a_way(self):
        for things in range(1, 13):
            for wrong in no_things_of(things):
                if wrong in range(things):
                    continue
                for pairs in ([], [(0, things - 1)]):
                    self.refuses(NoThing, way_by, things, pairs, wrong, 0)
                    self.refuses(NoThing, way_by, things, pairs, 0, wrong)
                    self.refuses(NoThing, way_by, things, pairs, wrong, wrong)

    def test_no_thing_goes_ahead_of_a_clash(self):
        self.refuses(NoThing, judged, 3, [(0, 1)], [(0, 1), (0, 3)])
        self.refuses(NoThing, judged, 3, [(0, 1), (3, 0)], [(0, 1)])
        self.refuses(NoThing, judged, 3, [], [(2, 2), (-1, 2)])

    def test_no_number_of_a_sharing(self):
        for things, count in enumerate(COUNTS, 1):
            sharing_at(things, count - 1)
            for wrong in [-1, -count, count, count + 1, 2 * count] + FAR:
                self.refuses(NoNumber, sharing_at, things, wrong)

    def test_no_number_of_shares(self):
        for things in range(1, 13):
            for wrong in NO_MANY_SHARES:
                self.refuses(NoNumber, many_with, things, wrong)

    def test_no_way(self):
        self.refuses(NoWay, way_by, 2, [], 0, 1)
        self.refuses(NoWay, way_by, 2, [(0, 0), (1, 1)], 1, 0)
        self.refuses(NoWay, way_by, 12, [(thing, thing + 1) for thing in range(11) if thing != 5], 0, 11)

    def test_not_read(self):
        for text in ("", "1", "0 ", "00", "0/0", "1/0", "0 2", str(10 ** 59), str(-(10 ** 59)), f"0 {10 ** 59}"):
            self.refuses(NotRead, read, text)

    def test_no_things_goes_ahead_of_no_number(self):
        for things in NO_MANY:
            for wrong in NO_MANY_SHARES:
                self.refuses(NoThings, many_with, things, wrong)
                self.refuses(NoThings, sharing_at, things, wrong)

    def test_no_things_goes_ahead_of_no_thing(self):
        for things in NO_MANY:
            for wrong in [-1, 0, 5, 12, 13] + FAR:
                self.refuses(NoThings, sharing_of, things, [(0, wrong)])
                self.refuses(NoThings, way_by, things, [(wrong, 0)], 0, 0)
                self.refuses(NoThings, way_by, things, [], wrong, 0)
                self.refuses(NoThings, way_by, things, [], 0, wrong)
                self.refuses(NoThings, judged, things, [(wrong, wrong)], [])
                self.refuses(NoThings, judged, things, [], [(wrong, wrong)])

    def test_no_things_goes_ahead_of_no_way(self):
        for things in NO_MANY:
            self.refuses(NoThings, way_by, things, [], 0, 1)

    def test_no_sharing_goes_ahead_of_unlike_and_not_finer(self):
        for function in OF_TWO:
            self.refuses(NoSharing, function, [0, 0, 0], [0, 2])
            self.refuses(NoSharing, function, [1], [0, 1])
            self.refuses(NoSharing, function, [0, 0, 0], [0, 2, 1])

    def test_unlike_goes_ahead_of_not_finer(self):
        for function in (rise, many_rises, signed):
            self.refuses(Unlike, function, [0, 0], [0, 1, 2])

    def test_no_thing_goes_ahead_of_no_way(self):
        for wrong in [-1, 3, 12] + FAR:
            self.refuses(NoThing, way_by, 3, [(0, 1)], 0, wrong)
            self.refuses(NoThing, way_by, 3, [(0, 1)], wrong, 2)
            self.refuses(NoThing, way_by, 3, [(0, wrong)], 0, 2)
            self.refuses(NoThing, way_by, 3, [(0, 1), (wrong, 2)], 0, 2)

    def test_nothing_is_refused_for_many_pairs(self):
        pairs = [(0, 1)] * 200
        self.assertEqual(sharing_of(3, pairs), [0, 0, 1])
        self.assertEqual(judged(3, pairs, [(0, 2)] * 200), ("sharing", [0, 0, 1]))
        self.assertIn(way_by(3, pairs, 0, 1)[-1], range(200))


if __name__ == "__main__":
    unittest.main()
