import unittest

from sharings.errors import NoShares, NoSharing, ShareError
from sharings.marks import is_sharing, marks_of, shares_of, sizes
from tests.helper import ALONE, NO_SHARES, NO_SHARINGS, OF_TWELVE, TOGETHER, all_sharings


class IsSharing(unittest.TestCase):
    def test_just_the_marks_of_sharings_are(self):
        # Each list of n numbers from -1 to n is asked, so that none beyond the known ones passes.
        for things in range(1, 6):
            lists = [[]]
            for _ in range(things):
                lists = [one + [mark] for one in lists for mark in range(-1, things + 1)]
            self.assertEqual([one for one in lists if is_sharing(one) is True], all_sharings(things))
            self.assertEqual([one for one in lists if is_sharing(one) is not False], all_sharings(things))

    def test_twelve_things(self):
        for one in OF_TWELVE:
            with self.subTest(one):
                self.assertIs(is_sharing(one), True)

    def test_what_is_none(self):
        for one in NO_SHARINGS:
            with self.subTest(one):
                self.assertIs(is_sharing(one), False)

    def test_argument_name(self):
        self.assertIs(is_sharing(one=[0]), True)


class SharesOf(unittest.TestCase):
    def test_ordinary(self):
        self.assertEqual(shares_of([0, 1, 0]), [[0, 2], [1]])
        self.assertEqual(shares_of([0, 1, 1, 2, 0, 3, 2]), [[0, 4], [1, 2], [3, 6], [5]])

    def test_one_thing(self):
        self.assertEqual(shares_of([0]), [[0]])

    def test_twelve_things(self):
        self.assertEqual(shares_of(TOGETHER), [list(range(12))])
        self.assertEqual(shares_of(ALONE), [[thing] for thing in range(12)])
        self.assertEqual(shares_of([0, 1, 2, 3, 4, 5, 5, 4, 3, 2, 1, 0]),
                         [[0, 11], [1, 10], [2, 9], [3, 8], [4, 7], [5, 6]])

    def test_refuses_what_is_no_sharing(self):
        for one in NO_SHARINGS:
            for taken in (NoSharing, ShareError, ValueError):
                with self.subTest(one=one, taken=taken):
                    with self.assertRaises(taken):
                        shares_of(one)

    def test_argument_name(self):
        self.assertEqual(shares_of(one=[0]), [[0]])


class MarksOf(unittest.TestCase):
    def test_ordinary(self):
        self.assertEqual(marks_of([[0, 2], [1]]), [0, 1, 0])

    def test_there_and_back(self):
        for things in range(1, 7):
            for one in all_sharings(things):
                self.assertEqual(marks_of(shares_of(one)), one)

    def test_there_and_back_at_twelve(self):
        for one in OF_TWELVE:
            with self.subTest(one):
                self.assertEqual(marks_of(shares_of(one)), one)

    def test_shares_in_another_order(self):
        for one in all_sharings(5) + OF_TWELVE:
            shares = shares_of(one)
            with self.subTest(one):
                self.assertEqual(marks_of(shares[::-1]), one)
                self.assertEqual(marks_of(shares[1:] + shares[:1]), one)

    def test_each_share_turned_round(self):
        for one in all_sharings(5) + OF_TWELVE:
            turned = [share[::-1] for share in shares_of(one)]
            with self.subTest(one):
                self.assertEqual(marks_of(turned), one)
                self.assertEqual(marks_of(turned[::-1]), one)

    def test_refuses_what_are_no_shares(self):
        for shares in NO_SHARES:
            for taken in (NoShares, ShareError, ValueError):
                with self.subTest(shares=shares, taken=taken):
                    with self.assertRaises(taken):
                        marks_of(shares)

    def test_argument_name(self):
        self.assertEqual(marks_of(shares=[[0]]), [0])


class Sizes(unittest.TestCase):
    def test_greatest_first(self):
        self.assertEqual(sizes([0, 1, 1, 2, 1, 2]), [3, 2, 1])
        self.assertEqual(sizes([0, 1, 0]), [2, 1])
        self.assertEqual(sizes([0, 1, 1]), [2, 1])
        self.assertEqual(sizes([0, 0, 1, 1]), [2, 2])

    def test_one_thing(self):
        self.assertEqual(sizes([0]), [1])

    def test_twelve_things(self):
        self.assertEqual(sizes(TOGETHER), [12])
        self.assertEqual(sizes(ALONE), [1] * 12)
        self.assertEqual(sizes([0] + [1] * 11), [11, 1])

    def test_against_a_count_of_each_mark(self):
        for one in all_sharings(6):
            counts = [one.count(mark) for mark in set(one)]
            self.assertEqual(sizes(one), sorted(counts)[::-1])

    def test_refuses_what_is_no_sharing(self):
        for one in NO_SHARINGS:
            for taken in (NoSharing, ShareError, ValueError):
                with self.subTest(one=one, taken=taken):
                    with self.assertRaises(taken):
                        sizes(one)

    def test_argument_name(self):
        self.assertEqual(sizes(one=[0]), [1])


if __name__ == "__main__":
    unittest.main()
