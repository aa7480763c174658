"""Point 7: the numbers of the chains, and the addresses of sets."""

import functools
import unittest

from samples import (
    address_by_the_words,
    all_sets,
    bottoms_by_the_words,
    few,
    large,
    loose_by_the_words,
    order_by_the_words,
)
from setchains.chains import chain
from setchains.errors import NoMany, NoNumber
from setchains.numbers import address, bottom_of, how_many, set_of

FAR = (-10 ** 30, 10 ** 30, -10 ** 5000, 10 ** 5000)


@functools.lru_cache(maxsize=None)
def bottoms_that_go_on(left, lacking, waiting):
    """In how many ways things are left out or taken in, one by one, so that each member closes another thing."""
    if left == 0:
        return 1 if lacking == 0 else 0
    ways = bottoms_that_go_on(left - 1, lacking, waiting + 1)
    if waiting > 0 and lacking > 0:
        ways += bottoms_that_go_on(left - 1, lacking - 1, waiting - 1)
    return ways


def number_by_counting(many, bottom):
    ahead = sum(bottoms_that_go_on(many, size, 0) for size in range(len(bottom)))
    for count, thing in enumerate(bottom):
        # Those go ahead that are the same below this thing and lack it: each member closed one of the others there.
        ahead += bottoms_that_go_on(many - thing - 1, len(bottom) - count, thing + 1 - 2 * count)
    return ahead


def some_numbers(many):
    """The first, the last, those where the size grows, and some between them."""
    chains = how_many(many)
    edges = [0]
    for size in range(many // 2):
        edges.append(edges[-1] + bottoms_that_go_on(many, size, 0))
    near = [edge + step for edge in edges for step in (-1, 0, 1)]
    between = [chains * part // 97 for part in range(97)]
    return sorted({number for number in near + between + [chains - 2, chains - 1] if 0 <= number < chains})


def some_numbers_of_many_things():
    return [(many, number) for many in (17, 24, 31, 38, 39, 40) for number in some_numbers(many)]


class Bottoms(unittest.TestCase):
    def test_told_examples(self):
        self.assertEqual(bottom_of(0, 0), [])
        self.assertEqual(bottom_of(1, 0), [])
        self.assertEqual([bottom_of(2, number) for number in range(2)], [[], [1]])
        self.assertEqual([bottom_of(3, number) for number in range(3)], [[], [2], [1]])
        asked = [[], [3], [2], [1], [2, 3], [1, 3]]
        self.assertEqual([bottom_of(4, number) for number in range(6)], asked)

    def test_all_bottoms_in_the_order_of_the_words(self):
        for many in range(12):
            told = [bottom_of(many, number) for number in range(how_many(many))]
            self.assertEqual(told, bottoms_by_the_words(many))

    def test_first_and_last_of_many_things(self):
        for many in range(2, 41):
            self.assertEqual(bottom_of(many, 0), [])
            self.assertEqual(bottom_of(many, 1), [many - 1])
            self.assertEqual(bottom_of(many, many - 1), [1])
            self.assertEqual(bottom_of(many, how_many(many) - 1), list(range(1, many, 2)))

    def test_bottoms_of_many_things(self):
        for many, number in some_numbers_of_many_things():
            bottom = bottom_of(many, number)
            self.assertEqual(loose_by_the_words(many, bottom)[0], [])
            self.assertEqual(chain(many, bottom)[0], bottom)
            self.assertEqual(number_by_counting(many, bottom), number)

    def test_a_bottom_of_many_things_goes_ahead_of_the_next_one(self):
        for many, number in some_numbers_of_many_things():
            if number > 0:
                self.assertLess(order_by_the_words(bottom_of(many, number - 1), bottom_of(many, number)), 0)

    def test_kinds(self):
        for many, number in some_numbers_of_many_things():
            told = bottom_of(many=many, number=number)
            self.assertIs(type(told), list)
            self.assertTrue(all(type(thing) is int for thing in told))

    def test_a_number_that_no_chain_has_is_refused(self):
        for many in range(41):
            for number in (-1, -2, -how_many(many), how_many(many), how_many(many) + 1) + FAR:
                with self.assertRaises(NoNumber) as caught:
                    bottom_of(many, number)
                self.assertIs(type(caught.exception), NoNumber)


class Addresses(unittest.TestCase):
    def test_told_examples(self):
        self.assertEqual(address(0, []), (0, 0))
        self.assertEqual(address(1, [0]), (0, 1))
        self.assertEqual(address(2, [1]), (1, 0))
        self.assertEqual(address(3, [0, 2]), (1, 1))
        self.assertEqual(address(3, [1]), (2, 0))
        self.assertEqual(address(3, [0, 1, 2]), (0, 3))
        self.assertEqual(address(4, [0, 1, 3]), (1, 2))
        self.assertEqual(address(4, [1, 3]), (5, 0))
        self.assertEqual(address(40, list(range(1, 40, 2))), (137846528819, 0))
        self.assertEqual(address(40, list(range(40))), (0, 40))

    def test_each_set_as_the_words_say(self):
        for many in range(11):
            bottoms = bottoms_by_the_words(many)
            for members in all_sets(many):
                self.assertEqual(address(many, members), address_by_the_words(many, members, bottoms))

    def test_sets_of_many_things(self):
        for many, members in large():
            held = loose_by_the_words(many, members)[0]
            bottom = [member for member in members if member not in held]
            self.assertEqual(address(many, members), (number_by_counting(many, bottom), len(held)))

    def test_the_places_of_a_chain_count_from_the_bottom(self):
        for many, members in few() + large():
            told = [address(many, one) for one in chain(many, members)]
            self.assertEqual(told, [(told[0][0], place) for place in range(len(told))])

    def test_kinds(self):
        for many, members in few() + large():
            told = address(many=many, members=members)
            self.assertIs(type(told), tuple)
            self.assertEqual([type(part) for part in told], [int, int])


class SetsOfAddresses(unittest.TestCase):
    def test_told_examples(self):
        self.assertEqual(set_of(0, 0, 0), [])
        self.assertEqual(set_of(1, 0, 1), [0])
        self.assertEqual(set_of(3, 1, 1), [0, 2])
        self.assertEqual(set_of(3, 2, 1), [1, 2])
        self.assertEqual(set_of(4, 1, 2), [0, 1, 3])

    def test_all_addresses_of_few_things(self):
        for many in range(11):
            bottoms = bottoms_by_the_words(many)
            for number, bottom in enumerate(bottoms):
                others = loose_by_the_words(many, bottom)[1]
                for place in range(len(others) + 1):
                    self.assertEqual(set_of(many, number, place), sorted(bottom + others[:place]))

    def test_the_set_at_the_address_of_a_set_is_that_set(self):
        for many, members in few() + large():
            number, place = address(many, members)
            self.assertEqual(set_of(many, number, place), members)

    def test_the_address_of_the_set_at_an_address_is_that_address(self):
        for many, number in some_numbers_of_many_things():
            last = many - 2 * len(bottom_of(many, number))
            for place in {0, 1, last // 2, last}:
                if place <= last:
                    self.assertEqual(address(many, set_of(many, number, place)), (number, place))

    def test_kinds(self):
        for many, number in some_numbers_of_many_things():
            told = set_of(many=many, number=number, place=0)
            self.assertIs(type(told), list)
            self.assertTrue(all(type(thing) is int for thing in told))

    def refused(self, many, number, place):
        with self.assertRaises(NoNumber) as caught:
            set_of(many, number, place)
        self.assertIs(type(caught.exception), NoNumber)

    def test_a_number_that_no_chain_has_is_refused(self):
        for many in range(41):
            for number in (-1, -2, -how_many(many), how_many(many), how_many(many) + 1) + FAR:
                for place in (0, 1, -1, 10 ** 30, -10 ** 30):
                    self.refused(many, number, place)

    def test_a_place_that_is_not_on_the_chain_is_refused(self):
        for many in range(41):
            for number in {0, how_many(many) // 2, how_many(many) - 1}:
                last = many - 2 * len(bottom_of(many, number))
                self.assertEqual(address(many, set_of(many, number, last)), (number, last))
                for place in (-1, -2, -last - 1, last + 1, last + 2) + FAR:
                    self.refused(many, number, place)

    def test_a_bad_number_of_things_goes_ahead(self):
        for many in (-1, 41) + FAR:
            for number in (0, -1) + FAR:
                with self.assertRaises(NoMany):
                    bottom_of(many, number)
                for place in (0, -1) + FAR:
                    with self.assertRaises(NoMany):
                        set_of(many, number, place)


if __name__ == "__main__":
    unittest.main()
