"""Point 2 and the heading statestay/errors.py."""

import unittest

from helpers import ATTRIBUTES, clear, told
from samples import one, part
from statestay import errors
from statestay.changes import apply, is_right_for
from statestay.desk import Desk
from statestay.matching import Rule
from statestay.moves import done
from statestay.repairs import repaired
from statestay.screens import Screen
from statestay.shapes import Shape, check
from statestay.templates import Template
from statestay.texts import read_shape
from statestay.verdicts import losing

GIVEN = {"part": "fields", "name": "todo", "path": ("lists", "todo", 1), "limit": 300, "place": "all",
         "owner": ((0,), (5,)), "shift": ("move", 1), "reason": "form", "repair": ("key", (0,)), "line": 3}


class Errors(unittest.TestCase):
    def test_base(self):
        self.assertEqual(errors.StayError.__bases__, (Exception,))

    def test_each_is_directly_below_the_base(self):
        for name in ATTRIBUTES:
            self.assertEqual(getattr(errors, name).__bases__, (errors.StayError,), name)

    def test_each_is_defined_here(self):
        for name in ["StayError"] + list(ATTRIBUTES):
            self.assertEqual(getattr(errors, name).__module__, "statestay.errors")

    def test_attributes(self):
        for name, attributes in ATTRIBUTES.items():
            values = [GIVEN[attribute] for attribute in attributes]
            self.assertEqual(told(getattr(errors, name)(*values)), (name, *values))
            self.assertEqual(told(getattr(errors, name)(**dict(zip(attributes, values)))), (name, *values))

    def test_wrong_numbers_of_arguments(self):
        for name, attributes in ATTRIBUTES.items():
            if attributes:
                self.assertRaises(TypeError, getattr(errors, name))

    def test_raised_and_caught_by_name_and_by_base(self):
        for name, attributes in ATTRIBUTES.items():
            made = getattr(errors, name)
            for caught in (made, errors.StayError):
                with self.assertRaises(caught):
                    raise made(*[GIVEN[attribute] for attribute in attributes])

    def test_what_is_given_is_copied(self):
        for name, attribute in (("InvalidRule", "place"), ("InvalidShift", "shift"), ("InvalidRepair", "repair")):
            given = [["move", {"to": [1]}], (2, [3])]
            error = getattr(errors, name)(given)
            clear(given)
            self.assertEqual(getattr(error, attribute), [["move", {"to": [1]}], (2, [3])])


class OneCallForEach(unittest.TestCase):
    def test_its_own_class_and_no_other(self):
        shape = Shape(["on"], {"todo": one({"mark": ("new", "old")}, {"step": one()})})
        data = {"flags": {"on": True}, "lists": {"todo": []}}
        template = Template(shape, [part("a")])
        calls = {
            "InvalidShape": (lambda: Shape([], []), "lists"), "NoList": (lambda: shape.fields("zz"), "zz"),
            "InvalidData": (lambda: check(shape, {**data, "flags": {}}), ("flags",)),
            "LimitExceeded": (lambda: is_right_for(template, Rule(), [], 2), 1000),
            "InvalidTemplate": (lambda: Template(shape, [part("a", ("id",))]), "key", (0,)),
            "NoItem": (lambda: losing(template, Rule(), (1,)), (1,)), "InvalidRule": (lambda: Rule("any"), "any"),
            "NoPart": (lambda: Screen(template, Rule(), data)[((1,), ())], ((1,), ())),
            "InvalidShift": (lambda: done([], [("remove", 0)]), ("remove", 0)),
            "InvalidDeed": (lambda: apply(shape, data, ("cut", ("todo",))), "index"),
            "InvalidRepair": (lambda: repaired(template, [("wrap", (0,))]), ("wrap", (0,))),
            "InvalidText": (lambda: read_shape("list a\n\n"), 2),
            "NothingToUndo": (Desk(template, Rule()).undo,), "NothingToRedo": (Desk(template, Rule()).redo,),
        }
        self.assertEqual(sorted(calls), sorted(ATTRIBUTES))
        for name, (call, *values) in calls.items():
            with self.assertRaises(errors.StayError) as caught:
                call()
            self.assertEqual(told(caught.exception), (name, *values))
            self.assertEqual(caught.exception.__class__.__bases__, (errors.StayError,))
            for other in ATTRIBUTES:
                self.assertIs(isinstance(caught.exception, getattr(errors, other)), name == other)


if __name__ == "__main__":
    unittest.main()
