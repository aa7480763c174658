"""Point 6: each set lies on just one chain, and how many chains there are."""

import math
import unittest

from samples import all_sets
from setchains.chains import chain
from setchains.numbers import how_many


def distinct_chains(many):
    return {tuple(tuple(one) for one in chain(many, members)) for members in all_sets(many)}


class Chains(unittest.TestCase):
    def test_each_set_stands_once_on_its_chain(self):
        for many in range(11):
            for members in all_sets(many):
                self.assertEqual(chain(many, members).count(members), 1)

    def test_the_chains_share_out_all_sets(self):
        for many in range(11):
            together = sorted(list(one) for told in distinct_chains(many) for one in told)
            self.assertEqual(together, sorted(all_sets(many)))

    def test_same_chain_just_where_one_stands_on_that_of_the_other(self):
        for many in range(8):
            chains = [(members, chain(many, members)) for members in all_sets(many)]
            for first, its_chain in chains:
                for second, other_chain in chains:
                    self.assertEqual(its_chain == other_chain, first in other_chain, (many, first, second))

    def test_as_many_chains_as_sets_of_the_middle_size(self):
        for many in range(11):
            middle = [members for members in all_sets(many) if len(members) == many // 2]
            self.assertEqual(len(distinct_chains(many)), len(middle))

    def test_how_many_as_chains_that_were_found(self):
        for many in range(11):
            self.assertEqual(how_many(many), len(distinct_chains(many)))

    def test_how_many_as_ways_to_pick_half_of_the_things(self):
        for many in range(41):
            self.assertEqual(how_many(many), math.comb(many, many // 2))

    def test_how_many_told_examples(self):
        self.assertEqual([how_many(many) for many in range(9)], [1, 1, 2, 3, 6, 10, 20, 35, 70])
        self.assertEqual(how_many(40), 137846528820)

    def test_how_many_is_a_whole_number(self):
        for many in range(41):
            self.assertIs(type(how_many(many=many)), int)


if __name__ == "__main__":
    unittest.main()
