"""Points 10 and 11."""

import unittest
from itertools import product
from random import Random

from sharings.errors import NoWay
from sharings.pairs import judged, sharing_of, way_by
from tests.helper import ALONE, OF_TWELVE, TOGETHER, all_sharings, finer_by_pairs, marks_by_search, walked

CHAIN = [(thing, thing + 1) for thing in range(11)]
RING = CHAIN + [(11, 0)]
STAR = [(5, thing) for thing in range(12)]
# The middle of the chain first, so that a way has to use the pairs in an order that is not theirs.
MIXED = [CHAIN[number] for number in (5, 10, 0, 7, 2, 9, 4, 1, 8, 3, 6)]
TURNED = [(second, first) for first, second in MIXED]
HALVES = [(0, 2), (4, 2), (6, 4), (8, 6), (8, 10), (11, 9), (7, 9), (7, 5), (3, 5), (3, 1)]
LONG = [CHAIN, CHAIN[::-1], RING, STAR, MIXED, TURNED, HALVES, HALVES[::-1], CHAIN * 5, CHAIN[:5] + CHAIN[6:]]


def all_lists_of_pairs(things, longest):
    pairs = list(product(range(things), repeat=2))
    return [list(some) for length in range(longest + 1) for some in product(pairs, repeat=length)]


def lists_by_chance(seed, count):
    """Numbers of things, each with a list of pairs: short and long ones, things that stand in no pair, pairs twice."""
    chance = Random(seed)
    for _ in range(count):
        things = chance.randint(1, 12)
        length = chance.choice([1, 3, 5, 8, 12, 60, 70])
        yield things, [(chance.randrange(things), chance.randrange(things)) for _ in range(length)]


def cases():
    for things, longest in ((1, 3), (2, 3), (3, 3), (4, 2)):
        for pairs in all_lists_of_pairs(things, longest):
            yield things, pairs
    for pairs in LONG:
        yield 12, pairs
    yield from lists_by_chance(1, 400)


class SharingOf(unittest.TestCase):
    def test_ordinary(self):
        self.assertEqual(sharing_of(4, [(0, 2)]), [0, 1, 0, 2])
        self.assertEqual(sharing_of(4, [(3, 1), (2, 0)]), [0, 1, 0, 1])
        self.assertEqual(sharing_of(5, [(3, 4), (1, 2), (2, 3)]), [0, 1, 1, 1, 1])

    def test_no_pairs(self):
        for things in range(1, 13):
            self.assertEqual(sharing_of(things, []), list(range(things)))

    def test_a_pair_of_one_thing_twice(self):
        for things in range(1, 13):
            for thing in range(things):
                self.assertEqual(sharing_of(things, [(thing, thing)]), list(range(things)))

    def test_against_a_search(self):
        for things, pairs in cases():
            self.assertEqual(sharing_of(things, pairs), marks_by_search(things, pairs), (things, pairs))

    def test_is_the_finest_that_keeps_the_pairs_together(self):
        sharings = all_sharings(4)
        for pairs in all_lists_of_pairs(4, 2):
            keeping = [one for one in sharings if all(one[first] == one[second] for first, second in pairs)]
            told = sharing_of(4, pairs)
            self.assertIn(told, keeping)
            self.assertTrue(all(finer_by_pairs(told, one) for one in keeping), pairs)

    def test_the_pairs_of_a_sharing_tell_it(self):
        for one in OF_TWELVE:
            pairs = [(one.index(mark), thing) for thing, mark in enumerate(one)]
            self.assertEqual(sharing_of(12, pairs), one)
            self.assertEqual(sharing_of(12, pairs[::-1]), one)

    def test_twelve_things(self):
        self.assertEqual(sharing_of(12, CHAIN), TOGETHER)
        self.assertEqual(sharing_of(12, MIXED), TOGETHER)
        self.assertEqual(sharing_of(12, [(11, 0)]), [0, 1, 2, 3, 4, 5, 6, 7, 8, 9, 10, 0])
        self.assertEqual(sharing_of(12, HALVES), [0, 1] * 6)

    def test_argument_names(self):
        self.assertEqual(sharing_of(things=2, pairs=[(0, 1)]), [0, 0])


class WayBy(unittest.TestCase):
    def check(self, things, pairs):
        marks = marks_by_search(things, pairs)
        for one, other in product(range(things), repeat=2):
            if marks[one] != marks[other]:
                with self.assertRaises(NoWay):
                    way_by(things, pairs, one, other)
                continue
            way = way_by(things, pairs, one, other)
            self.assertIs(type(way), list)
            self.assertTrue(all(type(number) is int for number in way))
            self.assertEqual(walked(pairs, way, one), other, (things, pairs, one, way))

    def test_walked_pair_by_pair(self):
        for things, pairs in cases():
            self.check(things, pairs)

    def test_the_walk_finds_what_is_no_way(self):
        self.assertEqual(walked(CHAIN, list(range(11)), 0), 11)
        self.assertEqual(walked([(0, 1), (2, 2)], [0, 0, 0], 0), 1)
        for way in ([1], [0, 2], [-1], [11], [0, 0, 1]):
            self.assertIsNone(walked(CHAIN, way, 0))

    def test_from_a_thing_to_itself(self):
        for pairs in LONG + [[]]:
            for thing in range(12):
                self.assertEqual(walked(pairs, way_by(12, pairs, thing, thing), thing), thing)
        self.assertEqual(way_by(1, [], 0, 0), [])
        self.assertEqual(way_by(12, [], 11, 11), [])

    def test_no_pairs(self):
        for one, other in product(range(4), repeat=2):
            if one != other:
                with self.assertRaises(NoWay):
                    way_by(4, [], one, other)

    def test_a_pair_of_one_thing_twice(self):
        with self.assertRaises(NoWay):
            way_by(2, [(0, 0), (1, 1)], 0, 1)
        pairs = [(0, 0), (1, 1), (1, 0), (2, 2), (1, 2)]
        self.assertEqual(walked(pairs, way_by(3, pairs, 0, 2), 0), 2)

    def test_argument_names(self):
        self.assertEqual(walked([(0, 1)], way_by(things=2, pairs=[(0, 1)], one=0, other=1), 0), 1)


class Judged(unittest.TestCase):
    def check(self, things, together, apart):
        marks = marks_by_search(things, together)
        clashes = [number for number, (first, second) in enumerate(apart) if marks[first] == marks[second]]
        told = judged(things, together, apart)
        self.assertIs(type(told), tuple)
        if not clashes:
            self.assertEqual(told, ("sharing", marks), (things, together, apart))
            return
        word, number, way = told
        self.assertEqual(word, "clash")
        self.assertIs(type(number), int)
        self.assertIs(type(way), list)
        self.assertIn(number, clashes)
        self.assertEqual(walked(together, way, apart[number][0]), apart[number][1], (things, together, apart))

    def test_ordinary(self):
        self.assertEqual(judged(3, [(0, 1)], [(1, 2)]), ("sharing", [0, 0, 1]))
        self.assertEqual(judged(3, [(0, 1), (1, 2)], [])[1], [0, 0, 0])
        word, number, way = judged(4, [(0, 1), (2, 1)], [(0, 3), (2, 0)])
        self.assertEqual((word, number, walked([(0, 1), (2, 1)], way, 2)), ("clash", 1, 0))

    def test_few_things(self):
        for things, longest in ((1, 2), (2, 2), (3, 2)):
            lists = all_lists_of_pairs(things, longest)
            for together in lists:
                for apart in lists:
                    self.check(things, together, apart)

    def test_twelve_things(self):
        for together in LONG:
            for apart in LONG + [[(0, 1)], [(11, 0)], [(0, 6), (5, 11)]]:
                self.check(12, together, apart)

    def test_by_chance(self):
        chance = Random(2)
        words = set()
        for things, together in lists_by_chance(3, 600):
            length = chance.randrange(4)
            apart = [(chance.randrange(things), chance.randrange(things)) for _ in range(length)]
            self.check(things, together, apart)
            words.add(judged(things, together, apart)[0])
        self.assertEqual(words, {"sharing", "clash"})

    def test_nothing_together(self):
        self.assertEqual(judged(12, [], []), ("sharing", ALONE))
        self.assertEqual(judged(12, [], RING), ("sharing", ALONE))

    def test_nothing_apart(self):
        self.assertEqual(judged(12, RING, []), ("sharing", TOGETHER))

    def test_a_thing_told_apart_from_itself(self):
        for together in ([], CHAIN, [(3, 3)]):
            word, number, way = judged(12, together, [(3, 3)])
            self.assertEqual((word, number, walked(together, way, 3)), ("clash", 0, 3))

    def test_the_clash_stands_last(self):
        apart = [(thing, 11) for thing in range(6, 11)] + [(10, 1), (5, 0)]
        word, number, way = judged(12, CHAIN[:5], apart)
        self.assertEqual((word, number, walked(CHAIN[:5], way, 5)), ("clash", 6, 0))

    def test_argument_names(self):
        self.assertEqual(judged(things=2, together=[], apart=[(0, 1)]), ("sharing", [0, 1]))


if __name__ == "__main__":
    unittest.main()
