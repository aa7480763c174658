"""Point 11: the middle family."""

import unittest

from samples import all_sets, bottoms_by_the_words, loose_by_the_words
from setchains.errors import NoMany
from setchains.families import clash, middle, share
from setchains.numbers import address, how_many


def middle_by_the_words(many):
    found = []
    for bottom in bottoms_by_the_words(many):
        others = loose_by_the_words(many, bottom)[1]
        found.append(sorted(bottom + others[: many // 2 - len(bottom)]))
    return found


class Middle(unittest.TestCase):
    def test_told_examples(self):
        self.assertEqual(middle(0), [[]])
        self.assertEqual(middle(1), [[]])
        self.assertEqual(middle(2), [[0], [1]])
        self.assertEqual(middle(3), [[0], [2], [1]])
        self.assertEqual(middle(4), [[0, 1], [0, 3], [0, 2], [1, 2], [2, 3], [1, 3]])

    def test_as_the_words_say(self):
        for many in range(9):
            self.assertEqual(middle(many), middle_by_the_words(many))

    def test_all_sets_of_half_the_size(self):
        for many in range(9):
            asked = [members for members in all_sets(many) if len(members) == many // 2]
            self.assertEqual(sorted(middle(many)), sorted(asked))

    def test_one_on_each_chain_in_the_order_of_the_numbers(self):
        for many in range(9):
            numbers = [address(many, members)[0] for members in middle(many)]
            self.assertEqual(numbers, list(range(how_many(many))))

    def test_it_has_no_clash_and_a_share_of_one(self):
        for many in range(9):
            self.assertIsNone(clash(many, middle(many)))
            self.assertEqual(share(many, middle(many)), (1, 1))

    def test_kinds(self):
        for many in range(9):
            told = middle(many=many)
            self.assertIs(type(told), list)
            for members in told:
                self.assertIs(type(members), list)
                self.assertTrue(all(type(thing) is int for thing in members))

    def test_other_numbers_of_things_are_refused(self):
        for many in list(range(9, 43)) + [-1, -2, -8, -10 ** 30, 10 ** 30, -10 ** 5000, 10 ** 5000]:
            with self.assertRaises(NoMany) as caught:
                middle(many)
            self.assertIs(type(caught.exception), NoMany)


if __name__ == "__main__":
    unittest.main()
