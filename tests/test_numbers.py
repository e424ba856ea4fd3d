"""Point 8, and how many sharings are finer and coarser (point 4)."""

import unittest
from itertools import product
from math import comb, factorial

from sharings.numbers import many, many_coarser, many_finer, many_with, number_of, sharing_at
from tests.helper import ALONE, COUNTS, OF_TWELVE, TOGETHER, all_sharings, pairs_together

SIX = range(1, 7)
ALL = range(1, 13)


def sharings_by_labels(things):
    """Every sharing, from all ways to label the things, in the order of their marks."""
    found = set()
    for labels in product(range(things), repeat=things):
        firsts = sorted({labels.index(label) for label in labels})
        found.add(tuple(firsts.index(labels.index(label)) for label in labels))
    return [list(one) for one in sorted(found)]


def put_behind(one):
    """The sharing next in the order of the marks: the last mark that may grow grows by one, all behind it fall to 0."""
    place = len(one) - 1
    while one[place] > max(one[:place]):
        place -= 1
    return one[:place] + [one[place] + 1] + [0] * (len(one) - place - 1)


def many_with_by_draws(things, shares):
    """Of all ways to give the things to named shares, those that leave no share empty, without the names."""
    signed = sum((-1) ** left * comb(shares, left) * (shares - left) ** things for left in range(shares + 1))
    return signed // factorial(shares)


def is_number(told):
    return isinstance(told, int) and not isinstance(told, bool)


class Many(unittest.TestCase):
    def test_against_all_sharings(self):
        for things in SIX:
            self.assertEqual(many(things), len(sharings_by_labels(things)), things)

    def test_up_to_twelve_things(self):
        self.assertEqual([many(things) for things in ALL], COUNTS)
        self.assertTrue(all(is_number(many(things)) for things in ALL))

    def test_argument_name(self):
        self.assertEqual(many(things=3), 5)


class ManyWith(unittest.TestCase):
    def test_against_all_sharings(self):
        for things in SIX:
            sharings = sharings_by_labels(things)
            for shares in range(13):
                counted = len([one for one in sharings if len(set(one)) == shares])
                self.assertEqual(many_with(things, shares), counted, (things, shares))

    def test_up_to_twelve_things(self):
        for things in ALL:
            told = [many_with(things, shares) for shares in range(13)]
            self.assertEqual(told, [many_with_by_draws(things, shares) for shares in range(13)])
            self.assertEqual(sum(told), COUNTS[things - 1])
            self.assertTrue(all(is_number(number) for number in told))

    def test_no_share_and_more_shares_than_things(self):
        for things in ALL:
            self.assertEqual(many_with(things, 0), 0)
            self.assertEqual(many_with(things, 1), 1)
            self.assertEqual(many_with(things, things), 1)
            for shares in range(things + 1, 13):
                self.assertEqual(many_with(things, shares), 0)

    def test_argument_names(self):
        self.assertEqual(many_with(things=3, shares=2), 3)


class SharingAtAndNumberOf(unittest.TestCase):
    def test_ordinary(self):
        self.assertEqual([sharing_at(3, number) for number in range(5)],
                         [[0, 0, 0], [0, 0, 1], [0, 1, 0], [0, 1, 1], [0, 1, 2]])
        self.assertEqual(number_of([0, 1, 0]), 2)
        self.assertEqual(sharing_at(1, 0), [0])
        self.assertEqual(number_of([0]), 0)

    def test_against_all_sharings_in_their_order(self):
        for things in SIX:
            for number, one in enumerate(sharings_by_labels(things)):
                self.assertEqual(sharing_at(things, number), one)
                self.assertEqual(number_of(one), number, one)
                self.assertTrue(is_number(number_of(one)))

    def test_there_and_back_up_to_eight_things(self):
        for things in range(1, 9):
            for number in range(COUNTS[things - 1]):
                self.assertEqual(number_of(sharing_at(things, number)), number)

    def test_there_and_back_up_to_twelve_things(self):
        for things in range(9, 13):
            count = COUNTS[things - 1]
            for number in [*range(0, count, count // 500), *range(200), *range(count - 200, count)]:
                self.assertEqual(number_of(sharing_at(things, number)), number)

    def test_back_and_there_at_twelve_things(self):
        for one in OF_TWELVE:
            self.assertEqual(sharing_at(12, number_of(one)), one)

    def test_first_and_last(self):
        for things in ALL:
            self.assertEqual(sharing_at(things, 0), [0] * things)
            self.assertEqual(sharing_at(things, COUNTS[things - 1] - 1), list(range(things)))
            self.assertEqual(number_of([0] * things), 0)
            self.assertEqual(number_of(list(range(things))), COUNTS[things - 1] - 1)

    def test_each_put_behind_the_one_ahead_at_twelve_things(self):
        # The first mark that may grow is far ahead at some of these numbers, and each run of 100 holds others.
        for start in range(0, COUNTS[11] - 101, 70_001):
            one = sharing_at(12, start)
            for number in range(start + 1, start + 100):
                one = put_behind(one)
                self.assertEqual(sharing_at(12, number), one, number)
                self.assertEqual(number_of(one), number, one)

    def test_the_whole_order_of_ten_things(self):
        one = [0] * 10
        for number in range(COUNTS[9] - 1):
            if number % 37 == 0:
                self.assertEqual(sharing_at(10, number), one)
                self.assertEqual(number_of(one), number)
            one = put_behind(one)
        self.assertEqual(one, list(range(10)))

    def test_argument_names(self):
        self.assertEqual(sharing_at(things=3, number=2), [0, 1, 0])
        self.assertEqual(number_of(one=[0, 1, 0]), 2)


class ManyFinerAndCoarser(unittest.TestCase):
    def test_ordinary(self):
        self.assertEqual(many_finer([0, 1, 0, 0]), 5)
        self.assertEqual(many_coarser([0, 1, 0, 0]), 2)
        self.assertEqual(many_finer([0]), 1)
        self.assertEqual(many_coarser([0]), 1)

    def test_against_all_sharings(self):
        for things in SIX:
            sharings = all_sharings(things)
            self.assertEqual(sharings, sharings_by_labels(things))
            together = [pairs_together(one) for one in sharings]
            for one, held in zip(sharings, together):
                self.assertEqual(many_finer(one), len([low for low in together if low <= held]), one)
                self.assertEqual(many_coarser(one), len([high for high in together if held <= high]), one)

    def test_twelve_things(self):
        self.assertEqual((many_finer(ALONE), many_coarser(ALONE)), (1, 4213597))
        self.assertEqual((many_finer(TOGETHER), many_coarser(TOGETHER)), (4213597, 1))
        for one in OF_TWELVE:
            finer = 1
            for mark in set(one):
                finer *= COUNTS[one.count(mark) - 1]
            self.assertEqual(many_finer(one), finer, one)
            self.assertEqual(many_coarser(one), COUNTS[len(set(one)) - 1], one)
            self.assertTrue(is_number(many_finer(one)) and is_number(many_coarser(one)))

    def test_argument_names(self):
        self.assertEqual(many_finer(one=[0, 0]), 2)
        self.assertEqual(many_coarser(one=[0, 0]), 1)


if __name__ == "__main__":
    unittest.main()
