"""The names and arguments of the interface."""

import inspect
import unittest

from setchains import chains, families, notes, numbers, pairs

ARGUMENTS = (
    (pairs, "paired", ["many", "members"]),
    (pairs, "loose", ["many", "members"]),
    (chains, "above", ["many", "members"]),
    (chains, "below", ["many", "members"]),
    (chains, "chain", ["many", "members"]),
    (numbers, "how_many", ["many"]),
    (numbers, "bottom_of", ["many", "number"]),
    (numbers, "address", ["many", "members"]),
    (numbers, "set_of", ["many", "number", "place"]),
    (families, "clash", ["many", "family"]),
    (families, "share", ["many", "family"]),
    (families, "middle", ["many"]),
    (notes, "shown", ["many", "members"]),
    (notes, "read", ["text"]),
)


class Interface(unittest.TestCase):
    def test_each_function_is_there_with_its_arguments(self):
        for module, name, arguments in ARGUMENTS:
            parameters = inspect.signature(getattr(module, name)).parameters
            self.assertEqual(list(parameters), arguments, name)
            for parameter in parameters.values():
                self.assertIs(parameter.kind, inspect.Parameter.POSITIONAL_OR_KEYWORD, name)
                self.assertIs(parameter.default, inspect.Parameter.empty, name)


if __name__ == "__main__":
    unittest.main()
