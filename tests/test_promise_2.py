"""Point 2: the number of things, what a set is, and the refusals."""

import unittest

from samples import FUNCTIONS, few, large
from setchains.errors import NoMany, NoSet

BAD_MANY = (-1, 41, -2, 42, -40, 80, -10 ** 30, 10 ** 30, -10 ** 5000, 10 ** 5000)
BAD_SETS = (
    # A member told twice.
    (1, [0, 0]),
    (5, [1, 1]),
    (5, [0, 2, 2]),
    (40, [39, 39]),
    (5, [1, 3, 1]),
    # Two members the wrong way round.
    (2, [1, 0]),
    (5, [0, 3, 2]),
    (5, [4, 3]),
    (5, [2, 1, 3]),
    (40, [39, 0]),
    # A member below nought.
    (0, [-1]),
    (5, [-1]),
    (5, [-1, 0]),
    (5, [-5, 2]),
    (5, [0, -1]),
    (5, [-10 ** 30]),
    (40, [-10 ** 5000, 1]),
    # A member that is not less than the number of things.
    (0, [0]),
    (1, [1]),
    (5, [5]),
    (5, [0, 5]),
    (5, [6]),
    (5, [5, 0]),
    (40, [40]),
    (40, [0, 39, 40]),
    (5, [10 ** 30]),
    (40, [1, 10 ** 5000]),
)


class Refusals(unittest.TestCase):
    def refused(self, function, many, members):
        try:
            function(many, members)
        except ValueError as error:
            return type(error)
        return None

    def test_another_number_of_things_is_refused(self):
        for function in FUNCTIONS:
            for many in BAD_MANY:
                for members in ([], [0], [0, 1, 5]):
                    self.assertIs(self.refused(function, many, members), NoMany, function.__name__)

    def test_the_number_of_things_is_looked_at_ahead_of_the_set(self):
        for function in FUNCTIONS:
            for many in BAD_MANY:
                for members in ([1, 0], [0, 0], [-1], [41], [10 ** 31], [-10 ** 31]):
                    self.assertIs(self.refused(function, many, members), NoMany, function.__name__)

    def test_a_bad_set_is_refused(self):
        for function in FUNCTIONS:
            for many, members in BAD_SETS:
                self.assertIs(self.refused(function, many, members), NoSet, (function.__name__, many))

    def test_good_ones_are_not_refused(self):
        for function in FUNCTIONS:
            for many in range(41):
                for members in ([], list(range(many)), list(range(0, many, 2)), list(range(1, many, 2))):
                    self.assertIsNone(self.refused(function, many, members), (function.__name__, many))
            for many, members in few() + large():
                self.assertIsNone(self.refused(function, many, members), (function.__name__, many))


if __name__ == "__main__":
    unittest.main()
