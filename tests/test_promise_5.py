"""Point 5: the chain of a set."""

import unittest

from samples import few, large, pairs_by_the_words
from setchains.chains import above, below, chain
from setchains.pairs import paired


def steps_from(step, many, members):
    """The sets that come behind a set by a step; no more than there are things, so that a fault ends too."""
    found = []
    following = step(many, members)
    while following is not None and len(found) <= many:
        found.append(following)
        following = step(many, following)
    return found


def chain_by_steps(many, members):
    lower = steps_from(below, many, members)
    upper = steps_from(above, many, members)
    return lower[::-1] + [members] + upper


class Chain(unittest.TestCase):
    def test_told_examples(self):
        self.assertEqual(chain(0, []), [[]])
        self.assertEqual(chain(1, [0]), [[], [0]])
        self.assertEqual(chain(2, [1]), [[1]])
        self.assertEqual(chain(3, [0, 2]), [[2], [0, 2]])
        self.assertEqual(chain(3, [1]), [[1], [1, 2]])
        self.assertEqual(chain(3, [0]), [[], [0], [0, 1], [0, 1, 2]])
        self.assertEqual(chain(4, [0, 3]), [[3], [0, 3], [0, 1, 3]])

    def test_from_the_lowest_up_and_up(self):
        for many, members in few() + large():
            self.assertEqual(chain(many, members), chain_by_steps(many, members))

    def test_the_set_stands_on_its_chain(self):
        for many, members in few() + large():
            self.assertEqual(chain(many, members).count(members), 1)

    def test_one_thing_more_at_each_step(self):
        for many, members in few() + large():
            told = chain(many, members)
            for lower, upper in zip(told, told[1:]):
                self.assertLess(set(lower), set(upper))
                self.assertEqual(len(upper), len(lower) + 1)

    def test_same_pairs_and_same_chain(self):
        for many, members in few() + large():
            told = chain(many, members)
            pairs = pairs_by_the_words(many, members)
            for one in told:
                self.assertEqual(paired(many, one), pairs)
                self.assertEqual(chain(many, one), told)

    def test_nothing_below_the_first_and_nothing_above_the_last(self):
        for many, members in few() + large():
            told = chain(many, members)
            self.assertIsNone(below(many, told[0]))
            self.assertIsNone(above(many, told[-1]))

    def test_sizes_of_first_and_last_come_to_the_number_of_things(self):
        for many, members in few() + large():
            told = chain(many, members)
            self.assertEqual(len(told[0]) + len(told[-1]), many)

    def test_the_chain_of_the_empty_set(self):
        for many in range(41):
            asked = [list(range(size)) for size in range(many + 1)]
            self.assertEqual(chain(many, []), asked)
            self.assertEqual(chain(many, list(range(many))), asked)

    def test_kinds(self):
        for many, members in few() + large():
            told = chain(many, members)
            self.assertIs(type(told), list)
            for one in told:
                self.assertIs(type(one), list)
                self.assertTrue(all(type(thing) is int for thing in one))

    def test_names_of_the_arguments(self):
        self.assertEqual(chain(many=1, members=[]), [[], [0]])


if __name__ == "__main__":
    unittest.main()
