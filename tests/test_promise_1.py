"""Point 1: nothing handed in is changed, and what is told is new each time."""

import copy
import unittest

from samples import FUNCTIONS, few, large


def lists_within(told):
    """All lists in what was told, itself among them."""
    if not isinstance(told, (list, tuple)):
        return []
    found = [told] if isinstance(told, list) else []
    for part in told:
        found = found + lists_within(part)
    return found


def spoil(told):
    for one in lists_within(told):
        one.append(99)
        one.reverse()


class NothingIsChanged(unittest.TestCase):
    def cases(self):
        return [(f, many, members) for f in FUNCTIONS for many, members in few() + large()]

    def test_the_set_handed_in_stays_as_it_was(self):
        for function, many, members in self.cases():
            before = list(members)
            function(many, members)
            self.assertEqual(members, before, function.__name__)

    def test_a_change_of_what_was_told_reaches_nothing(self):
        for function, many, members in self.cases():
            before = list(members)
            told = function(many, members)
            kept = copy.deepcopy(told)
            spoil(told)
            self.assertEqual(members, before, function.__name__)
            self.assertEqual(function(many, members), kept, function.__name__)

    def test_the_lists_told_are_not_the_set_and_not_one_another(self):
        for function, many, members in self.cases():
            first = function(many, members)
            second = function(many, members)
            lists = [members] + lists_within(first) + lists_within(second)
            self.assertEqual(len({id(one) for one in lists}), len(lists), function.__name__)

    def test_a_change_of_the_set_behind_the_call_reaches_nothing_told(self):
        for function, many, members in self.cases():
            handed = list(members)
            told = function(many, handed)
            kept = copy.deepcopy(told)
            handed.append(99)
            self.assertEqual(told, kept, function.__name__)

    def test_a_refused_set_stays_as_it_was(self):
        for function in FUNCTIONS:
            for many, members in ((3, [2, 1]), (3, [0, 0]), (41, [1, 2]), (-1, [0])):
                before = list(members)
                with self.assertRaises(ValueError):
                    function(many, members)
                self.assertEqual(members, before, function.__name__)


if __name__ == "__main__":
    unittest.main()
