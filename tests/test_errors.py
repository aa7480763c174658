import unittest

from setchains.errors import ChainError, NoMany, NoNote, NoNumber, NoSet


class Errors(unittest.TestCase):
    def test_any_refusal_is_a_value_error(self):
        self.assertEqual(ChainError.__bases__, (ValueError,))

    def test_each_refusal_is_straight_under_chain_error(self):
        for refusal in (NoMany, NoSet, NoNumber, NoNote):
            self.assertEqual(refusal.__bases__, (ChainError,))

    def test_the_refusals_are_four_classes(self):
        self.assertEqual(len({NoMany, NoSet, NoNumber, NoNote}), 4)
        for refusal in (NoMany, NoSet, NoNumber, NoNote):
            self.assertEqual(refusal.__module__, "setchains.errors")


if __name__ == "__main__":
    unittest.main()
