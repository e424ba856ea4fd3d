"""Point 1: what is handed in is neither changed nor kept, and what is told is the asker's own."""

import unittest
from copy import deepcopy

from sharings.errors import ShareError
from sharings.marks import is_sharing, marks_of, shares_of, sizes
from sharings.notes import read, shown
from sharings.numbers import many, many_coarser, many_finer, many_with, number_of, sharing_at
from sharings.order import is_finer, joining, many_rises, meeting, rise, signed
from sharings.pairs import judged, sharing_of, way_by
from tests.helper import ALONE, NO_SHARES, NO_SHARINGS, TOGETHER, all_sharings, lists_within

OF_ONE = [is_sharing, shares_of, sizes, number_of, many_finer, many_coarser, shown]
OF_TWO = [is_finer, meeting, joining, rise, many_rises, signed]
PAIRS = [[], [(0, 0)], [(0, 1)], [(1, 0), (2, 1)], [(0, 2), (2, 3), (3, 1)], [(0, 4)], [(-1, 0)]]


def calls():
    """Calls of every function: the function and what is handed in; some are refused."""
    sharings = [one for things in (1, 2, 3, 4) for one in all_sharings(things)] + [ALONE, TOGETHER]
    for function in OF_ONE:
        for one in sharings + NO_SHARINGS:
            yield function, [one]
    for one in sharings:
        yield marks_of, [[share[::-1] for share in shares_of(one)[::-1]]]
    for shares in NO_SHARES:
        yield marks_of, [shares]
    for function in OF_TWO:
        for one in sharings:
            for other in sharings:
                yield function, [list(one), list(other)]
        for wrong in NO_SHARINGS:
            yield function, [wrong, [0, 0]]
            yield function, [[0, 1], wrong]
    for things in range(-1, 15):
        yield many, [things]
        for number in range(-1, 15):
            yield many_with, [things, number]
            yield sharing_at, [things, number]
    yield from calls_of_pairs()
    for text in [shown(one) for one in sharings] + ["", "1/0", "0 1 ", "00"]:
        yield read, [text]


def calls_of_pairs():
    for pairs in PAIRS:
        for things in (0, 1, 3, 4, 12, 13):
            yield sharing_of, [things, list(pairs)]
            for other in range(-1, 5):
                yield way_by, [things, list(pairs), 0, other]
            for apart in PAIRS:
                yield judged, [things, list(pairs), list(apart)]


def answer(function, handed):
    try:
        return function(*handed)
    except ShareError as refusal:
        return type(refusal)


def spoil(value):
    for found in lists_within(value):
        found.reverse()
        found.append(99)


class Own(unittest.TestCase):
    def test_what_is_handed_in_stays_as_it_was(self):
        for function, handed in calls():
            given = deepcopy(handed)
            answer(function, given)
            self.assertEqual(given, handed, function.__name__)

    def test_nothing_hangs_on_what_was_handed_in(self):
        for function, handed in calls():
            given = deepcopy(handed)
            told = answer(function, given)
            kept = deepcopy(told)
            spoil(given)
            self.assertEqual(told, kept, function.__name__)
            self.assertEqual(answer(function, deepcopy(handed)), kept, function.__name__)

    def test_what_is_told_may_be_changed(self):
        for function, handed in calls():
            given = deepcopy(handed)
            told = answer(function, given)
            kept = deepcopy(told)
            spoil(told)
            self.assertEqual(given, handed, function.__name__)
            self.assertEqual(answer(function, given), kept, function.__name__)

    def test_no_two_lists_told_are_one(self):
        for function, handed in calls():
            given = deepcopy(handed)
            first, second = answer(function, given), answer(function, given)
            lists = lists_within(first) + lists_within(second) + lists_within(given)
            self.assertEqual(len({id(found) for found in lists}), len(lists), function.__name__)

    def test_one_list_handed_in_as_both(self):
        for function in OF_TWO:
            for one in all_sharings(4):
                given = list(one)
                told = function(given, given)
                self.assertEqual(given, one)
                self.assertFalse(any(found is given for found in lists_within(told)), function.__name__)

    def test_one_list_handed_in_as_together_and_apart(self):
        for pairs in ([], [(0, 0)], [(0, 1), (1, 2)]):
            given = list(pairs)
            told = judged(3, given, given)
            self.assertEqual(given, pairs)
            self.assertFalse(any(found is given for found in lists_within(told)))

    def test_answers_mingled_with_others_stay_as_they_were(self):
        first = [answer(function, deepcopy(handed)) for function, handed in calls()]
        for told in first:
            spoil(told)
        kept = [answer(function, deepcopy(handed)) for function, handed in calls()]
        again = [answer(function, deepcopy(handed)) for function, handed in reversed(list(calls()))]
        self.assertEqual(kept, again[::-1])
        self.assertNotEqual(kept, first)


if __name__ == "__main__":
    unittest.main()
