"""Point 4: the set above and the set below."""

import unittest

from samples import few, large, loose_by_the_words
from setchains.chains import above, below


class AboveAndBelow(unittest.TestCase):
    def test_told_examples(self):
        self.assertIsNone(above(0, []))
        self.assertIsNone(below(0, []))
        self.assertEqual(above(1, []), [0])
        self.assertIsNone(above(1, [0]))
        self.assertEqual(below(1, [0]), [])
        self.assertIsNone(above(2, [1]))
        self.assertIsNone(below(2, [1]))
        self.assertEqual(above(3, [1]), [1, 2])
        self.assertEqual(above(3, [2]), [0, 2])
        self.assertEqual(below(3, [0, 2]), [2])
        self.assertEqual(above(6, [0, 1, 3]), [0, 1, 3, 4])
        self.assertEqual(below(6, [0, 1, 3]), [0, 3])

    def test_above_as_the_words_say(self):
        for many, members in few() + large():
            others = loose_by_the_words(many, members)[1]
            asked = sorted(members + [min(others)]) if others else None
            self.assertEqual(above(many, members), asked)

    def test_below_as_the_words_say(self):
        for many, members in few() + large():
            held = loose_by_the_words(many, members)[0]
            asked = sorted(set(members) - {max(held)}) if held else None
            self.assertEqual(below(many, members), asked)

    def test_up_and_down_lead_back(self):
        for many, members in few() + large():
            upper = above(many, members)
            if upper is not None:
                self.assertEqual(below(many, upper), members)
            lower = below(many, members)
            if lower is not None:
                self.assertEqual(above(many, lower), members)

    def test_empty_and_full_set(self):
        for many in range(1, 41):
            things = list(range(many))
            self.assertEqual(above(many, []), [0])
            self.assertIsNone(below(many, []))
            self.assertEqual(below(many, things), things[:-1])
            self.assertIsNone(above(many, things))

    def test_kinds(self):
        for many, members in few() + large():
            for told in (above(many, members), below(many, members)):
                if told is not None:
                    self.assertIs(type(told), list)
                    self.assertTrue(all(type(thing) is int for thing in told))

    def test_names_of_the_arguments(self):
        self.assertEqual(above(many=1, members=[]), [0])
        self.assertEqual(below(many=1, members=[0]), [])


if __name__ == "__main__":
    unittest.main()
