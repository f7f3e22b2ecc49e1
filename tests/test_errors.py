"""Point 2 and the heading statestay/errors.py."""

import unittest

from statestay import errors
from helpers import ATTRIBUTES, clear, told

GIVEN = {"part": "fields", "name": "todo", "path": ("lists", "todo", 1), "limit": 300, "place": "all",
         "owner": ((0,), (5,)), "shift": ("move", 1), "reason": "form", "repair": ("key", (0,)), "line": 3}


class Errors(unittest.TestCase):
    def test_base(self):
        self.assertEqual(errors.StayError.__bases__, (Exception,))

    def test_each_is_directly_below_the_base(self):
        for name in ATTRIBUTES:
            self.assertEqual(getattr(errors, name).__bases__, (errors.StayError,), name)

    def test_each_is_defined_here(self):
        for name in ["StayError"] + list(ATTRIBUTES):
            self.assertEqual(getattr(errors, name).__module__, "statestay.errors")

    def test_attributes(self):
        for name, attributes in ATTRIBUTES.items():
            values = [GIVEN[attribute] for attribute in attributes]
            self.assertEqual(told(getattr(errors, name)(*values)), (name, *values))
            self.assertEqual(told(getattr(errors, name)(**dict(zip(attributes, values)))), (name, *values))

    def test_wrong_numbers_of_arguments(self):
        for name, attributes in ATTRIBUTES.items():
            if attributes:
                self.assertRaises(TypeError, getattr(errors, name))

    def test_raised_and_caught_by_name_and_by_base(self):
        for name, attributes in ATTRIBUTES.items():
            made = getattr(errors, name)
            for caught in (made, errors.StayError):
                with self.assertRaises(caught):
                    raise made(*[GIVEN[attribute] for attribute in attributes])

    def test_what_is_given_is_copied(self):
        for name, attribute in (("InvalidRule", "place"), ("InvalidShift", "shift"), ("InvalidRepair", "repair")):
            given = [["move", {"to": [1]}], (2, [3])]
            error = getattr(errors, name)(given)
            clear(given)
            self.assertEqual(getattr(error, attribute), [["move", {"to": [1]}], (2, [3])])


if __name__ == "__main__":
    unittest.main()
