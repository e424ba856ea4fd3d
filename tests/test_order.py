import os
import subprocess
import sys
import unittest
from functools import cache

from sharings.errors import NoSharing, NotFiner, ShareError, Unlike
from sharings.order import is_finer, joining, many_rises, meeting, rise, signed
from tests.helper import (ALONE, NO_SHARINGS, OF_TWELVE, TOGETHER, all_sharings, all_steps, closed, finer_by_pairs,
                          marks_by_pairs, pairs_together)

TOP = os.path.dirname(os.path.dirname(os.path.abspath(__file__)))
FEW = range(1, 6)

# Each function, and whether it refuses a second sharing that isn't coarser.
OF_TWO = [(is_finer, False), (meeting, False), (joining, False), (rise, True), (many_rises, True), (signed, True)]


def all_pairs(things):
    sharings = all_sharings(things)
    return [(one, other) for one in sharings for other in sharings]


def finer_pairs(things):
    return [(one, other) for one, other in all_pairs(things) if finer_by_pairs(one, other)]


def finer_pairs_of_twelve():
    return [(one, other) for one in OF_TWELVE for other in OF_TWELVE if finer_by_pairs(one, other)]


@cache
def between(one, other):
    """All sharings that are coarser than one and finer than the other, both themselves too."""
    return [middle for middle in all_sharings(len(one))
            if finer_by_pairs(one, middle) and finer_by_pairs(middle, other)]


@cache
def signed_by_words(one, other):
    if one == other:
        return 1
    return 0 - sum(signed_by_words(one, tuple(middle)) for middle in between(one, other) if tuple(middle) != other)


@cache
def many_rises_by_count(one, other):
    if one == other:
        return 1
    return sum(many_rises_by_count(tuple(step), other) for step in all_steps(one) if finer_by_pairs(step, other))


class IsFiner(unittest.TestCase):
    def test_ordinary(self):
        self.assertIs(is_finer([0, 1, 0, 2], [0, 1, 0, 1]), True)
        self.assertIs(is_finer([0, 1, 0, 1], [0, 1, 0, 2]), False)
        self.assertIs(is_finer([0, 0, 1], [0, 1, 1]), False)

    def test_against_a_look_at_each_pair_of_things(self):
        for things in FEW:
            for one, other in all_pairs(things):
                self.assertIs(is_finer(one, other), finer_by_pairs(one, other), (one, other))

    def test_against_a_look_at_each_pair_of_twelve_things(self):
        for one in OF_TWELVE:
            for other in OF_TWELVE:
                self.assertIs(is_finer(one, other), finer_by_pairs(one, other), (one, other))

    def test_each_finer_than_itself(self):
        for things in range(1, 7):
            for one in all_sharings(things):
                self.assertIs(is_finer(one, list(one)), True)
                self.assertIs(is_finer(one, one), True)


class MeetingAndJoining(unittest.TestCase):
    def test_ordinary(self):
        self.assertEqual(meeting([0, 0, 0, 1], [0, 1, 1, 1]), [0, 1, 1, 2])
        self.assertEqual(joining([0, 0, 1, 2], [0, 1, 1, 2]), [0, 0, 0, 1])
        self.assertEqual(meeting([0], [0]), [0])
        self.assertEqual(joining([0], [0]), [0])

    def test_meeting_is_the_coarsest_that_is_finer_than_both(self):
        for things in FEW:
            sharings = all_sharings(things)
            finer = {(tuple(a), tuple(b)) for a, b in finer_pairs(things)}
            for one, other in all_pairs(things):
                told = meeting(one, other)
                below = [low for low in sharings
                         if (tuple(low), tuple(one)) in finer and (tuple(low), tuple(other)) in finer]
                self.assertIn(told, below)
                self.assertTrue(all((tuple(low), tuple(told)) in finer for low in below), (one, other))

    def test_joining_is_the_finest_that_is_coarser_than_both(self):
        for things in FEW:
            sharings = all_sharings(things)
            finer = {(tuple(a), tuple(b)) for a, b in finer_pairs(things)}
            for one, other in all_pairs(things):
                told = joining(one, other)
                above = [high for high in sharings
                         if (tuple(one), tuple(high)) in finer and (tuple(other), tuple(high)) in finer]
                self.assertIn(told, above)
                self.assertTrue(all((tuple(told), tuple(high)) in finer for high in above), (one, other))

    def test_twelve_things(self):
        for one in OF_TWELVE:
            for other in OF_TWELVE:
                first, second = pairs_together(one), pairs_together(other)
                self.assertEqual(meeting(one, other), marks_by_pairs(12, first & second), (one, other))
                self.assertEqual(joining(one, other), marks_by_pairs(12, closed(12, first | second)), (one, other))

    def test_a_chain_of_twelve_joins_to_one_share(self):
        self.assertEqual(joining([0, 0, 1, 1, 2, 2, 3, 3, 4, 4, 5, 5], [0, 1, 1, 2, 2, 3, 3, 4, 4, 5, 5, 6]), TOGETHER)


class Rise(unittest.TestCase):
    def check(self, one, other):
        told = rise(one, other)
        self.assertIsInstance(told, list)
        self.assertEqual(told[0], one)
        self.assertEqual(told[-1], other)
        for ahead, behind in zip(told, told[1:]):
            self.assertIn(behind, all_steps(ahead))

    def test_first_last_and_each_a_step(self):
        for things in FEW:
            for one, other in finer_pairs(things):
                self.check(one, other)

    def test_twelve_things(self):
        for one, other in finer_pairs_of_twelve():
            with self.subTest(one=one, other=other):
                self.check(one, other)

    def test_from_a_sharing_to_itself(self):
        for one in all_sharings(4) + OF_TWELVE:
            self.assertEqual(rise(one, list(one)), [one])
            self.assertEqual(rise(one, one), [one])

    def test_from_all_alone_to_all_together(self):
        self.assertEqual(len(rise(ALONE, TOGETHER)), 12)


class ManyRises(unittest.TestCase):
    def test_against_a_count_of_all_rises(self):
        for things in FEW:
            for one, other in finer_pairs(things):
                self.assertEqual(many_rises(one, other), many_rises_by_count(tuple(one), tuple(other)), (one, other))

    def test_several_shares_that_are_joined_of_several(self):
        for other in ([0, 0, 0, 1, 1, 1], [0, 0, 1, 1, 2, 2], [0, 1, 1, 0, 1, 0, 0], [0, 0, 0, 1, 1, 2, 2]):
            one = list(range(len(other)))
            self.assertEqual(many_rises(one, other), many_rises_by_count(tuple(one), tuple(other)), other)

    def test_from_a_sharing_to_itself(self):
        for one in all_sharings(4) + OF_TWELVE:
            self.assertEqual(many_rises(one, list(one)), 1)

    def test_twelve_shares(self):
        # The first step joins two of twelve shares, the next two of eleven, and so on.
        self.assertEqual(many_rises(ALONE, TOGETHER), 66 * 55 * 45 * 36 * 28 * 21 * 15 * 10 * 6 * 3 * 1)

    def test_twelve_things_in_six_pairs(self):
        # Each of the six pairs is one step, and they go in any order.
        self.assertEqual(many_rises(ALONE, [0, 0, 1, 1, 2, 2, 3, 3, 4, 4, 5, 5]), 720)

    def test_twelve_things_in_two_halves(self):
        # 15 * 10 * 6 * 3 rises for either half, five steps each, mingled in 252 ways.
        self.assertEqual(many_rises(ALONE, [0, 0, 0, 0, 0, 0, 1, 1, 1, 1, 1, 1]), 2700 * 2700 * 252)


class Signed(unittest.TestCase):
    def test_against_the_words(self):
        for things in FEW:
            for one, other in finer_pairs(things):
                self.assertEqual(signed(one, other), signed_by_words(tuple(one), tuple(other)), (one, other))

    def test_from_a_sharing_to_itself(self):
        for one in all_sharings(4) + OF_TWELVE:
            self.assertEqual(signed(one, list(one)), 1)

    def test_from_all_alone_to_all_together(self):
        self.assertEqual([signed(list(range(things)), [0] * things) for things in range(1, 13)],
                         [1, -1, 2, -6, 24, -120, 720, -5040, 40320, -362880, 3628800, -39916800])

    def test_twelve_things_in_two_halves(self):
        self.assertEqual(signed(ALONE, [0, 0, 0, 0, 0, 0, 1, 1, 1, 1, 1, 1]), 14400)

    def test_answers_at_once_at_twelve_shares(self):
        # In a process of its own, so that a sum over millions of sharings fails and doesn't hang the run.
        program = ("from sharings.order import many_rises, signed\n"
                   "for _ in range(100):\n"
                   "    signed(list(range(12)), [0] * 12)\n"
                   "    many_rises(list(range(12)), [0] * 12)\n")
        subprocess.run([sys.executable, "-c", program], cwd=TOP, timeout=20, check=True)


class Refusals(unittest.TestCase):
    def refuses(self, function, one, other, refusal):
        with self.subTest(function=function.__name__, one=one, other=other):
            with self.assertRaises(ShareError) as caught:
                function(one, other)
            self.assertIs(type(caught.exception), refusal)
            self.assertIsInstance(caught.exception, ValueError)

    def test_no_sharing(self):
        for function, _ in OF_TWO:
            for wrong in NO_SHARINGS:
                self.refuses(function, wrong, [0], NoSharing)
                self.refuses(function, [0], wrong, NoSharing)
                self.refuses(function, wrong, list(wrong), NoSharing)

    def test_unlike(self):
        for function, _ in OF_TWO:
            self.refuses(function, [0], [0, 0], Unlike)
            self.refuses(function, [0, 1], [0], Unlike)
            self.refuses(function, ALONE, [0] * 11, Unlike)

    def test_not_finer(self):
        for function, refuses_coarser in OF_TWO:
            for things in (2, 3, 4):
                for one, other in all_pairs(things):
                    if finer_by_pairs(one, other) or not refuses_coarser:
                        function(one, other)
                    else:
                        self.refuses(function, one, other, NotFiner)

    def test_not_finer_at_twelve(self):
        for function in (rise, many_rises, signed):
            self.refuses(function, TOGETHER, ALONE, NotFiner)
            self.refuses(function, [0] + [1] * 11, [0] * 11 + [1], NotFiner)

    def test_no_sharing_goes_ahead_of_unlike(self):
        for function, _ in OF_TWO:
            self.refuses(function, [0, 2], [0, 0, 0], NoSharing)
            self.refuses(function, [0, 0, 0], [0, 2], NoSharing)
            self.refuses(function, [], [0], NoSharing)
            self.refuses(function, TOGETHER, [0] * 13, NoSharing)

    def test_no_sharing_goes_ahead_of_not_finer(self):
        for function in (rise, many_rises, signed):
            self.refuses(function, [0, 0, 0], [0, 2, 1], NoSharing)
            self.refuses(function, [1, 1, 1], [0, 1, 2], NoSharing)

    def test_unlike_goes_ahead_of_not_finer(self):
        for function in (rise, many_rises, signed):
            self.refuses(function, [0, 0], [0, 1, 2], Unlike)
            self.refuses(function, [0, 0, 0], [0, 1], Unlike)

    def test_argument_names(self):
        for function, _ in OF_TWO:
            function(one=[0, 1], other=[0, 0])


if __name__ == "__main__":
    unittest.main()
