"""Point 10: the share of a family."""

import itertools
import math
import unittest
from fractions import Fraction

from samples import all_sets, clash_by_the_words, few, large, mixed_families, sets_of_size, shuffled, small_families
from setchains.families import clash, share


def share_by_the_words(many, family):
    total = sum((Fraction(1, math.comb(many, len(members))) for members in family), Fraction(0))
    return (total.numerator, total.denominator)


class Share(unittest.TestCase):
    def test_told_examples(self):
        self.assertEqual(share(0, [[]]), (1, 1))
        self.assertEqual(share(3, [[0]]), (1, 3))
        self.assertEqual(share(3, [[0], [1]]), (2, 3))
        self.assertEqual(share(3, [[0], [1], [2]]), (1, 1))
        self.assertEqual(share(4, [[0], [1]]), (1, 2))
        self.assertEqual(share(4, [[0], [1, 2]]), (5, 12))
        self.assertEqual(share(3, [[], [0, 1, 2], [1]]), (7, 3))
        self.assertEqual(share(2, [[], [0], [1], [0, 1]]), (3, 1))

    def test_the_empty_family(self):
        for many in range(41):
            self.assertEqual(share(many, []), (0, 1))

    def test_of_one_set(self):
        for many, members in few() + large():
            self.assertEqual(share(many, [members]), (1, math.comb(many, len(members))))

    def test_as_the_words_say(self):
        for many, family in small_families() + mixed_families():
            self.assertEqual(share(many, family), share_by_the_words(many, family))

    def test_of_all_sets_there_is_one_for_each_size(self):
        for many in range(9):
            self.assertEqual(share(many, shuffled(all_sets(many), 5)), (many + 1, 1))

    def test_of_all_sets_of_one_size_it_is_one(self):
        for many in range(9):
            for size in range(many + 1):
                self.assertEqual(share(many, sets_of_size(many, size)), (1, 1))
        for size in (0, 1, 2, 38, 39, 40):
            self.assertEqual(share(40, sets_of_size(40, size)), (1, 1))

    def test_one_of_each_size_of_forty_things(self):
        family = [list(range(size)) for size in range(41)]
        self.assertEqual(share(40, family), share_by_the_words(40, family))

    def test_in_lowest_terms(self):
        for many, family in small_families() + mixed_families():
            upper, lower = share(many, family)
            self.assertGreater(lower, 0)
            self.assertEqual(math.gcd(upper, lower), 1)

    def test_at_most_one_without_a_clash(self):
        for many, family in small_families() + mixed_families():
            if clash_by_the_words(family) is None:
                upper, lower = share(many, family)
                self.assertLessEqual(upper, lower)
        for size in range(7):
            for family in itertools.combinations(all_sets(4), size):
                if clash(4, list(family)) is None:
                    upper, lower = share(4, list(family))
                    self.assertLessEqual(upper, lower)

    def test_the_order_of_the_sets_makes_no_difference(self):
        for many, family in mixed_families():
            self.assertEqual(share(many, family[::-1]), share(many, family))

    def test_kinds(self):
        for many, family in small_families() + mixed_families():
            told = share(many=many, family=family)
            self.assertIs(type(told), tuple)
            self.assertEqual([type(part) for part in told], [int, int])


if __name__ == "__main__":
    unittest.main()
