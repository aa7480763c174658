"""Point 3: pairs and loose things."""

import unittest

from samples import few, large, loose_by_the_words, pairs_by_the_words
from setchains.pairs import loose, paired


class Pairs(unittest.TestCase):
    def test_told_examples(self):
        self.assertEqual(paired(0, []), [])
        self.assertEqual(paired(1, []), [])
        self.assertEqual(paired(1, [0]), [])
        self.assertEqual(paired(2, [1]), [(0, 1)])
        self.assertEqual(paired(2, [0]), [])
        self.assertEqual(paired(4, [2, 3]), [(0, 3), (1, 2)])
        self.assertEqual(paired(4, [1, 3]), [(0, 1), (2, 3)])
        self.assertEqual(paired(7, [0, 3, 4, 6]), [(1, 4), (2, 3), (5, 6)])
        self.assertEqual(paired(3, [2]), [(1, 2)])

    def test_as_the_words_say(self):
        for many, members in few() + large():
            self.assertEqual(paired(many, members), pairs_by_the_words(many, members))

    def test_half_and_half_of_forty_things(self):
        nested = [(thing, 39 - thing) for thing in range(20)]
        self.assertEqual(paired(40, list(range(20, 40))), nested)
        self.assertEqual(paired(40, list(range(20))), [])

    def test_a_pair_holds_an_equal_number_of_members_and_others_between(self):
        for many, members in few() + large():
            for first, second in paired(many, members):
                self.assertNotIn(first, members)
                self.assertIn(second, members)
                between = [thing for thing in range(first + 1, second)]
                inside = [thing for thing in between if thing in members]
                self.assertEqual(len(between), 2 * len(inside))

    def test_by_rising_first_things(self):
        for many, members in few() + large():
            firsts = [pair[0] for pair in paired(many, members)]
            self.assertEqual(firsts, sorted(set(firsts)))

    def test_kinds(self):
        for many, members in few() + large():
            told = paired(many, members)
            self.assertIs(type(told), list)
            for pair in told:
                self.assertIs(type(pair), tuple)
                self.assertEqual([type(thing) for thing in pair], [int, int])

    def test_names_of_the_arguments(self):
        self.assertEqual(paired(many=2, members=[1]), [(0, 1)])


class Loose(unittest.TestCase):
    def test_told_examples(self):
        self.assertEqual(loose(0, []), ([], []))
        self.assertEqual(loose(1, []), ([], [0]))
        self.assertEqual(loose(1, [0]), ([0], []))
        self.assertEqual(loose(2, [0]), ([0], [1]))
        self.assertEqual(loose(2, [1]), ([], []))
        self.assertEqual(loose(8, [0, 3, 4]), ([0], [5, 6, 7]))
        self.assertEqual(loose(6, [0, 1, 3]), ([0, 1], [4, 5]))

    def test_as_the_words_say(self):
        for many, members in few() + large():
            self.assertEqual(loose(many, members), loose_by_the_words(many, members))

    def test_empty_and_full_set(self):
        for many in range(41):
            things = list(range(many))
            self.assertEqual(loose(many, []), ([], things))
            self.assertEqual(loose(many, things), (things, []))

    def test_rising_and_members_ahead_of_others(self):
        for many, members in few() + large():
            held, others = loose(many, members)
            together = held + others
            self.assertEqual(together, sorted(set(together)))

    def test_each_thing_is_in_one_pair_or_loose(self):
        for many, members in few() + large():
            held, others = loose(many, members)
            bound = [thing for pair in paired(many, members) for thing in pair]
            self.assertEqual(sorted(bound + held + others), list(range(many)))

    def test_kinds(self):
        for many, members in few() + large():
            told = loose(many, members)
            self.assertIs(type(told), tuple)
            self.assertEqual([type(part) for part in told], [list, list])
            self.assertTrue(all(type(thing) is int for part in told for thing in part))

    def test_names_of_the_arguments(self):
        self.assertEqual(loose(many=2, members=[0]), ([0], [1]))


if __name__ == "__main__":
    unittest.main()
