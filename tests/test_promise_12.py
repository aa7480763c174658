"""Point 12: how a set is written and read."""

import itertools
import unittest

from samples import few, large
from setchains.errors import NoNote
from setchains.notes import read, shown

SIGNS = [chr(code) for code in range(ord(" "), ord("~") + 1) if chr(code) != "%"] + ["\t", "\n"]
OTHER_SIGNS = [sign for sign in SIGNS if sign not in "()"]


class Shown(unittest.TestCase):
    def test_told_examples(self):
        self.assertEqual(shown(0, []), "")
        self.assertEqual(shown(1, []), "(")
        self.assertEqual(shown(1, [0]), ")")
        self.assertEqual(shown(4, [0, 3]), ")(()")
        self.assertEqual(shown(40, list(range(20, 40))), "(" * 20 + ")" * 20)

    def test_each_sign(self):
        for many, members in few() + large():
            told = shown(many, members)
            self.assertEqual(len(told), many)
            for thing, sign in enumerate(told):
                self.assertEqual(sign, ")" if thing in members else "(")

    def test_kinds(self):
        for many, members in few() + large():
            self.assertIs(type(shown(many=many, members=members)), str)


class Read(unittest.TestCase):
    def refused(self, text):
        with self.assertRaises(NoNote, msg=repr(text)) as caught:
            read(text)
        self.assertIs(type(caught.exception), NoNote)

    def test_told_examples(self):
        self.assertEqual(read(""), (0, []))
        self.assertEqual(read("("), (1, []))
        self.assertEqual(read(")"), (1, [0]))
        self.assertEqual(read(")(()"), (4, [0, 3]))
        self.assertEqual(read("((()"), (4, [3]))

    def test_what_is_written_is_read_to_the_same(self):
        for many, members in few() + large():
            self.assertEqual(read(shown(many, members)), (many, members))

    def test_what_is_read_is_written_to_the_same(self):
        for many in range(10):
            for signs in itertools.product("()", repeat=many):
                text = "".join(signs)
                self.assertEqual(shown(*read(text)), text)

    def test_forty_signs_go_and_more_do_not(self):
        for pair in ("((", "))", "()", ")("):
            for many in range(41):
                text = (pair * 20)[:many]
                asked = [thing for thing, sign in enumerate(text) if sign == ")"]
                self.assertEqual(read(text), (many, asked))
            for many in (41, 42, 43, 80, 1000):
                self.refused((pair * 500)[:many])

    def test_another_sign_by_itself(self):
        for sign in OTHER_SIGNS:
            self.refused(sign)

    def test_another_sign_at_any_place(self):
        for sign in OTHER_SIGNS:
            for place in range(5):
                self.refused("(())"[:place] + sign + "(())"[place:])
            for place in range(40):
                self.refused(("()" * 20)[:place] + sign + ("()" * 20)[place + 1 :])

    def test_a_line_end_or_blanks_around_the_text(self):
        for text in ("()\n", "\n()", " ()", "() ", "\t()", "()\t", "( )", "(\n)", "\n", " ", "\t", "()\n()"):
            self.refused(text)

    def test_another_sign_in_a_long_text(self):
        for place in (0, 20, 39, 40, 41):
            self.refused(("()" * 21)[:place] + "x" + ("()" * 21)[place + 1 :])

    def test_kinds(self):
        for many, members in few() + large():
            told = read(text=shown(many, members))
            self.assertIs(type(told), tuple)
            self.assertEqual([type(part) for part in told], [int, list])
            self.assertTrue(all(type(thing) is int for thing in told[1]))


if __name__ == "__main__":
    unittest.main()
