"""Point 8: what a family is, and how its sets are counted."""

import unittest

from samples import FAMILY_FUNCTIONS, all_sets, scattered, sets_of_size, shuffled
from setchains.errors import NoMany, NoSet
from setchains.families import clash

BAD_SETS = ([2, 1], [1, 1], [-1], [5], [0, 5], [3, 0, 4], [10 ** 30], [-10 ** 30, 2])


class Families(unittest.TestCase):
    def refused(self, function, many, family, refusal):
        with self.assertRaises(refusal) as caught:
            function(many, family)
        self.assertIs(type(caught.exception), refusal)

    def test_the_empty_family_goes(self):
        for function in FAMILY_FUNCTIONS:
            for many in range(41):
                function(many, [])

    def test_any_order_goes(self):
        for function in FAMILY_FUNCTIONS:
            for many in range(6):
                for seed in range(1, 6):
                    function(many, shuffled(all_sets(many), seed))
            function(40, sets_of_size(40, 1)[::-1])

    def test_the_same_set_twice_is_refused_at_any_two_places(self):
        for function in FAMILY_FUNCTIONS:
            for doubled in ([], [1], [0, 3], [0, 1, 2, 3, 4]):
                rest = [members for members in ([2], [1, 3], [0, 2, 4], [4]) if members != doubled]
                for first in range(len(rest) + 1):
                    for second in range(first, len(rest) + 1):
                        family = rest[:first] + [list(doubled)] + rest[first:second] + [list(doubled)] + rest[second:]
                        self.refused(function, 5, family, NoSet)

    def test_the_very_same_list_twice_is_refused(self):
        for function in FAMILY_FUNCTIONS:
            for members in ([], [1], [1, 2]):
                self.refused(function, 3, [members, members], NoSet)

    def test_the_same_set_twice_is_refused_among_many_things(self):
        for function in FAMILY_FUNCTIONS:
            family = [scattered(40, seed) for seed in range(1, 21)]
            function(40, family)
            for members in family:
                self.refused(function, 40, family + [list(members)], NoSet)
                self.refused(function, 40, [list(members)] + family, NoSet)

    def test_the_empty_set_twice_is_refused(self):
        for function in FAMILY_FUNCTIONS:
            for many in range(41):
                self.refused(function, many, [[], []], NoSet)

    def test_one_that_is_no_set_is_refused_at_any_place(self):
        for function in FAMILY_FUNCTIONS:
            for bad in BAD_SETS:
                # The first two clash, so that a clash that is found must not go ahead of the refusal.
                good = [[2], [1, 2], [0, 2, 4], []]
                for place in range(len(good) + 1):
                    self.refused(function, 5, good[:place] + [list(bad)] + good[place:], NoSet)

    def test_a_bad_number_of_things_goes_ahead(self):
        for function in FAMILY_FUNCTIONS:
            for many in (-1, 41, -10 ** 30, 10 ** 30):
                for family in ([], [[]], [[], []], [[1], [2, 1]], [[10 ** 31]]):
                    self.refused(function, many, family, NoMany)

    def test_sets_are_counted_from_nought_in_their_order(self):
        for ahead in range(4):
            for between in range(4):
                loners = [[thing] for thing in range(10, 10 + ahead + between)]
                family = loners[:ahead] + [[0]] + loners[ahead:] + [[0, 1]]
                self.assertEqual(clash(40, family), (ahead, ahead + between + 1))


if __name__ == "__main__":
    unittest.main()
