"""Point 9: the clash of a family."""

import itertools
import unittest

from samples import all_sets, clash_by_the_words, mixed_families, sets_of_size, shuffled, small_families
from setchains.chains import chain
from setchains.families import clash
from setchains.numbers import how_many


class Clash(unittest.TestCase):
    def test_told_examples(self):
        self.assertIsNone(clash(0, []))
        self.assertIsNone(clash(0, [[]]))
        self.assertIsNone(clash(3, [[0], [1], [2]]))
        self.assertIsNone(clash(3, [[0, 1], [2]]))
        self.assertEqual(clash(1, [[], [0]]), (0, 1))
        self.assertEqual(clash(1, [[0], []]), (1, 0))
        self.assertEqual(clash(3, [[0, 1], [2], [1]]), (2, 0))
        self.assertEqual(clash(3, [[0, 1, 2], [0, 1], [0]]), (1, 0))

    def test_the_least_first_count(self):
        # The sets at 3 and at 1 lie within others; the pair (3, 0) has the lesser second count.
        self.assertEqual(clash(5, [[0, 1], [3], [2], [0], [3, 4]]), (1, 4))
        self.assertEqual(clash(5, [[0, 1, 2], [0, 1], [0]]), (1, 0))

    def test_of_these_the_least_second_count(self):
        self.assertEqual(clash(5, [[0], [1, 2], [0, 1, 2], [0, 1]]), (0, 2))
        self.assertEqual(clash(5, [[0], [1, 2], [0, 1], [0, 1, 2]]), (0, 2))
        self.assertEqual(clash(5, [[0, 1, 2], [1], [1, 3]]), (1, 0))

    def test_where_the_one_that_lies_within_stands_behind(self):
        for many in range(1, 41):
            things = list(range(many))
            self.assertEqual(clash(many, [things, things[1:]]), (1, 0))
            self.assertEqual(clash(many, [things[1:], things]), (0, 1))

    def test_the_empty_set_lies_within_each_other_set(self):
        for many, family in small_families() + mixed_families():
            others = [members for members in family if members != []]
            if others:
                self.assertEqual(clash(many, [[]] + others), (0, 1))
            for members in others:
                self.assertEqual(clash(many, [members, []]), (1, 0))

    def test_all_small_families_as_the_words_say(self):
        for many, family in small_families():
            self.assertEqual(clash(many, family), clash_by_the_words(family))

    def test_all_orders_of_the_sets_of_two_things(self):
        for size in range(5):
            for family in itertools.permutations(all_sets(2), size):
                self.assertEqual(clash(2, list(family)), clash_by_the_words(family))

    def test_mixed_families_as_the_words_say(self):
        for many, family in mixed_families():
            if len(family) < 100:
                self.assertEqual(clash(many, family), clash_by_the_words(family))

    def test_sets_of_one_size_have_no_clash(self):
        for many in range(9):
            for size in range(many + 1):
                self.assertIsNone(clash(many, shuffled(sets_of_size(many, size), 7)))
        for size in (1, 2, 38, 39, 40):
            self.assertIsNone(clash(40, sets_of_size(40, size)))

    def test_the_last_two_of_forty_things(self):
        family = sets_of_size(40, 2)
        self.assertEqual(clash(40, family + [[0, 38, 39]]), (family.index([0, 38]), 780))
        self.assertEqual(clash(40, family + [[39]]), (780, family.index([0, 39])))

    def test_two_sets_of_a_chain_clash(self):
        for many, members in ((8, [0, 3, 4]), (40, list(range(0, 40, 3)))):
            sets = chain(many, members)
            self.assertEqual(clash(many, sets), (0, 1))
            self.assertEqual(clash(many, sets[::-1]), (1, 0))

    def test_more_sets_than_chains_clash(self):
        for many in range(5):
            for family in itertools.combinations(all_sets(many), how_many(many) + 1):
                self.assertIsNotNone(clash(many, list(family)))

    def test_no_more_sets_than_chains_without_a_clash(self):
        for many, family in small_families() + mixed_families():
            if clash(many, family) is None:
                self.assertLessEqual(len(family), how_many(many))

    def test_kinds(self):
        for many, family in small_families() + mixed_families():
            told = clash(many=many, family=family)
            if told is not None:
                self.assertIs(type(told), tuple)
                self.assertEqual([type(part) for part in told], [int, int])


if __name__ == "__main__":
    unittest.main()
