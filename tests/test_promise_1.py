"""Point 1: nothing handed in is changed, and what is told is new each time."""

import copy
import unittest

from samples import FAMILY_FUNCTIONS, SET_FUNCTIONS, few, large, mixed_families, small_families
from setchains.families import middle
from setchains.notes import read
from setchains.numbers import bottom_of, how_many, set_of

REFUSED_SETS = ((3, [2, 1]), (3, [0, 0]), (3, [0, 3]), (41, [1, 2]), (-1, [0]))
REFUSED_FAMILIES = (
    (3, [[2], [1], [2]]),
    (3, [[1], [2, 1], [0]]),
    (3, [[1], [0, 3]]),
    (41, [[1], [0]]),
    (-1, [[], [1, 0]]),
)


def calls_with_lists():
    """Calls that are handed a list: a function, and what is handed in."""
    sets = [(function, [many, members]) for function in SET_FUNCTIONS for many, members in few() + large()]
    families = small_families() + mixed_families()
    return sets + [(function, [many, family]) for function in FAMILY_FUNCTIONS for many, family in families]


def calls_without_lists():
    found = [(how_many, [many]) for many in range(41)] + [(middle, [many]) for many in range(9)]
    for many in range(41):
        for number in (0, how_many(many) // 2, how_many(many) - 1):
            found.append((bottom_of, [many, number]))
            found.append((set_of, [many, number, 0]))
            found.append((set_of, [many, number, many - 2 * len(bottom_of(many, number))]))
    return found + [(read, [text]) for text in ("", "(", ")", "())(", "(" * 40, ")" * 40, "()" * 20)]


def lists_within(told):
    """All lists in what was told, itself among them."""
    if not isinstance(told, (list, tuple)):
        return []
    found = [told] if isinstance(told, list) else []
    for part in told:
        found = found + lists_within(part)
    return found


def spoil(told):
    for one in lists_within(told):
        one.append(99)
        one.reverse()


class NothingIsChanged(unittest.TestCase):
    def test_what_was_handed_in_stays_as_it_was(self):
        for function, handed in calls_with_lists():
            before = copy.deepcopy(handed)
            function(*handed)
            self.assertEqual(handed, before, function.__name__)

    def test_a_change_of_what_was_told_reaches_nothing(self):
        for function, handed in calls_with_lists() + calls_without_lists():
            before = copy.deepcopy(handed)
            told = function(*handed)
            kept = copy.deepcopy(told)
            spoil(told)
            self.assertEqual(handed, before, function.__name__)
            self.assertEqual(function(*handed), kept, function.__name__)

    def test_the_lists_told_are_not_those_handed_in_and_not_one_another(self):
        for function, handed in calls_with_lists() + calls_without_lists():
            first = function(*handed)
            second = function(*handed)
            lists = lists_within(handed) + lists_within(first) + lists_within(second)
            self.assertEqual(len({id(one) for one in lists}), len(lists), function.__name__)

    def test_a_change_of_what_was_handed_in_behind_the_call_reaches_nothing_told(self):
        for function, handed in calls_with_lists():
            own = copy.deepcopy(handed)
            told = function(*own)
            kept = copy.deepcopy(told)
            spoil(own)
            self.assertEqual(told, kept, function.__name__)

    def test_what_is_refused_stays_as_it_was(self):
        refused = [(function, handed) for function in SET_FUNCTIONS for handed in REFUSED_SETS]
        refused += [(function, handed) for function in FAMILY_FUNCTIONS for handed in REFUSED_FAMILIES]
        for function, handed in refused:
            before = copy.deepcopy(handed)
            with self.assertRaises(ValueError):
                function(*handed)
            self.assertEqual(handed, before, function.__name__)


if __name__ == "__main__":
    unittest.main()
