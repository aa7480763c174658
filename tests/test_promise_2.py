"""Point 2: the number of things, what a set is, and the refusals."""

import unittest

from samples import FAMILY_FUNCTIONS, SET_FUNCTIONS, few, large, mixed_families, small_families
from setchains.errors import NoMany, NoSet
from setchains.families import middle
from setchains.numbers import bottom_of, how_many, set_of

BAD_MANY = (-1, 41, -2, 42, -40, 80, -10 ** 30, 10 ** 30, -10 ** 5000, 10 ** 5000)
BAD_SETS = (
    # A member told twice.
    (1, [0, 0]),
    (5, [1, 1]),
    (5, [0, 2, 2]),
    (40, [39, 39]),
    (5, [1, 3, 1]),
    # Two members the wrong way round.
    (2, [1, 0]),
    (5, [0, 3, 2]),
    (5, [4, 3]),
    (5, [2, 1, 3]),
    (40, [39, 0]),
    # A member below nought.
    (0, [-1]),
    (5, [-1]),
    (5, [-1, 0]),
    (5, [-5, 2]),
    (5, [0, -1]),
    (5, [-10 ** 30]),
    (40, [-10 ** 5000, 1]),
    # A member that is not less than the number of things.
    (0, [0]),
    (1, [1]),
    (5, [5]),
    (5, [0, 5]),
    (5, [6]),
    (5, [5, 0]),
    (40, [40]),
    (40, [0, 39, 40]),
    (5, [10 ** 30]),
    (40, [1, 10 ** 5000]),
)


BAD_NUMBERS = (-1, 10 ** 12, -10 ** 30, 10 ** 30, -10 ** 5000, 10 ** 5000)


def refused(function, *handed):
    """The very class of the refusal, or None."""
    try:
        function(*handed)
    except ValueError as error:
        return type(error)
    return None


class Sets(unittest.TestCase):
    def test_another_number_of_things_is_refused(self):
        for function in SET_FUNCTIONS:
            for many in BAD_MANY:
                for members in ([], [0], [0, 1, 5]):
                    self.assertIs(refused(function, many, members), NoMany, function.__name__)

    def test_the_number_of_things_is_looked_at_ahead_of_the_set(self):
        for function in SET_FUNCTIONS:
            for many in BAD_MANY:
                for members in ([1, 0], [0, 0], [-1], [41], [10 ** 31], [-10 ** 31]):
                    self.assertIs(refused(function, many, members), NoMany, function.__name__)

    def test_a_bad_set_is_refused(self):
        for function in SET_FUNCTIONS:
            for many, members in BAD_SETS:
                self.assertIs(refused(function, many, members), NoSet, (function.__name__, many))

    def test_good_ones_are_not_refused(self):
        for function in SET_FUNCTIONS:
            for many in range(41):
                for members in ([], list(range(many)), list(range(0, many, 2)), list(range(1, many, 2))):
                    self.assertIsNone(refused(function, many, members), (function.__name__, many))
            for many, members in few() + large():
                self.assertIsNone(refused(function, many, members), (function.__name__, many))


class Families(unittest.TestCase):
    def test_another_number_of_things_is_refused(self):
        for function in FAMILY_FUNCTIONS:
            for many in BAD_MANY:
                for family in ([], [[]], [[0], [1]]):
                    self.assertIs(refused(function, many, family), NoMany, function.__name__)

    def test_the_number_of_things_is_looked_at_ahead_of_the_family(self):
        for function in FAMILY_FUNCTIONS:
            for many in BAD_MANY:
                for family in ([[], []], [[1, 0]], [[-1]], [[0], [10 ** 31]], [[0], [1], [0]]):
                    self.assertIs(refused(function, many, family), NoMany, function.__name__)

    def test_a_bad_set_is_refused(self):
        for function in FAMILY_FUNCTIONS:
            for many, members in BAD_SETS:
                self.assertIs(refused(function, many, [members]), NoSet, (function.__name__, many))

    def test_good_ones_are_not_refused(self):
        for function in FAMILY_FUNCTIONS:
            for many in range(41):
                for family in ([], [[]], [list(range(many))], [[thing] for thing in range(many)]):
                    self.assertIsNone(refused(function, many, family), (function.__name__, many))
            for many, family in small_families() + mixed_families():
                self.assertIsNone(refused(function, many, family), (function.__name__, many))


class NumbersOfThings(unittest.TestCase):
    def test_another_number_of_things_is_refused(self):
        for many in BAD_MANY:
            self.assertIs(refused(how_many, many), NoMany)
            self.assertIs(refused(middle, many), NoMany)
            self.assertIs(refused(bottom_of, many, 0), NoMany)
            self.assertIs(refused(set_of, many, 0, 0), NoMany)

    def test_the_number_of_things_is_looked_at_ahead_of_the_other_numbers(self):
        for many in BAD_MANY:
            for bad in BAD_NUMBERS:
                self.assertIs(refused(bottom_of, many, bad), NoMany)
                self.assertIs(refused(set_of, many, bad, 0), NoMany)
                self.assertIs(refused(set_of, many, 0, bad), NoMany)
                self.assertIs(refused(set_of, many, bad, bad), NoMany)

    def test_good_ones_are_not_refused(self):
        for many in range(41):
            self.assertIsNone(refused(how_many, many))
            self.assertIsNone(refused(bottom_of, many, 0))
            self.assertIsNone(refused(set_of, many, 0, 0))
            self.assertIsNone(refused(set_of, many, 0, many))


if __name__ == "__main__":
    unittest.main()
