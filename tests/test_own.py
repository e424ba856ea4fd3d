"""Point 1: what is handed in is neither changed nor kept, and what is told is the asker's own."""

import unittest
from copy import deepcopy

from sharings.errors import ShareError
from sharings.marks import is_sharing, marks_of, shares_of, sizes
from sharings.order import is_finer, joining, many_rises, meeting, rise, signed
from tests.helper import ALONE, NO_SHARES, NO_SHARINGS, TOGETHER, all_sharings, lists_within

OF_ONE = [is_sharing, shares_of, sizes]
OF_TWO = [is_finer, meeting, joining, rise, many_rises, signed]


def calls():
    """Calls of every function: the function and what is handed in; some are refused."""
    sharings = [one for things in (1, 2, 3, 4) for one in all_sharings(things)] + [ALONE, TOGETHER]
    for function in OF_ONE:
        for one in sharings + NO_SHARINGS:
            yield function, [one]
    for one in sharings:
        yield marks_of, [[share[::-1] for share in shares_of(one)[::-1]]]
    for shares in NO_SHARES:
        yield marks_of, [shares]
    for function in OF_TWO:
        for one in sharings:
            for other in sharings:
                yield function, [list(one), list(other)]
        for wrong in NO_SHARINGS:
            yield function, [wrong, [0, 0]]
            yield function, [[0, 1], wrong]


def answer(function, handed):
    try:
        return function(*handed)
    except ShareError as refusal:
        return type(refusal)


def spoil(value):
    for found in lists_within(value):
        found.reverse()
        found.append(99)


class Own(unittest.TestCase):
    def test_what_is_handed_in_stays_as_it_was(self):
        for function, handed in calls():
            given = deepcopy(handed)
            answer(function, given)
            self.assertEqual(given, handed, function.__name__)

    def test_nothing_hangs_on_what_was_handed_in(self):
        for function, handed in calls():
            given = deepcopy(handed)
            told = answer(function, given)
            kept = deepcopy(told)
            spoil(given)
            self.assertEqual(told, kept, function.__name__)
            self.assertEqual(answer(function, deepcopy(handed)), kept, function.__name__)

    def test_what_is_told_may_be_changed(self):
        for function, handed in calls():
            given = deepcopy(handed)
            told = answer(function, given)
            kept = deepcopy(told)
            spoil(told)
            self.assertEqual(given, handed, function.__name__)
            self.assertEqual(answer(function, given), kept, function.__name__)

    def test_no_two_lists_told_are_one(self):
        for function, handed in calls():
            given = deepcopy(handed)
            first, second = answer(function, given), answer(function, given)
            lists = lists_within(first) + lists_within(second) + lists_within(given)
            self.assertEqual(len({id(found) for found in lists}), len(lists), function.__name__)

    def test_one_list_handed_in_as_both(self):
        for function in OF_TWO:
            for one in all_sharings(4):
                given = list(one)
                told = function(given, given)
                self.assertEqual(given, one)
                self.assertFalse(any(found is given for found in lists_within(told)), function.__name__)


if __name__ == "__main__":
    unittest.main()
