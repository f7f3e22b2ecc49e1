"""Templates that are right for few rows and one deed (point 48)."""

import random
import time
import unittest

import dice_templates
import expected_changes
import expected_screens
from helpers import clear, exactly, outcome
from samples import group, one, part
from statestay.changes import SORTS, apply, changes, is_right_for
from statestay.drawing import draw
from statestay.matching import Rule, faults
from statestay.right import is_right
from statestay.shapes import Shape, all_data, count_data
from statestay.templates import Template

PLACES = ("all", "plain")


def small_specs(most):
    return [spec for spec in dice_templates.specs() if count_data(Shape(*spec), most, ids=most + 1) <= 1000]


def faulty(items, place, old, new):
    """Whether there is a fault, by the second writing."""
    return bool(expected_screens.faults(place, *[expected_screens.drawing(items, data) for data in (old, new)]))


class RightFor(unittest.TestCase):
    def compare(self, spec, items, place, most, sorts):
        """Compare with the definition; whether the template is right for these deeds."""
        template = Template(Shape(*spec), items)
        rule = Rule(place)
        told = is_right_for(template, rule, sorts, most)
        if told is None:
            for data in all_data(template.shape, most, ids=most + 1):
                for deed in expected_changes.every_deed(spec, data, most):
                    if deed[0] in sorts:
                        after = expected_changes.done(spec, data, deed)
                        self.assertFalse(faulty(items, place, data, after), (items, place, data, deed))
            return True
        self.assertEqual((type(told), len(told)), (tuple, 2))
        data, deed = told
        self.assertIn(exactly(data), [exactly(other) for other in all_data(template.shape, most, ids=most + 1)])
        self.assertIn(exactly(deed), [exactly(other) for other in changes(template.shape, data, sorts, most)])
        after = apply(template.shape, data, deed)
        self.assertTrue(faulty(items, place, data, after))
        self.assertNotEqual(faults(rule, draw(template, data), draw(template, after)), [])
        return False

    def test_templates_that_dice_choose(self):
        dice = random.Random(48)
        right = []
        for turn in range(70):
            most = dice.choice([1, 1, 2])
            spec = dice.choice(small_specs(most))
            items = dice_templates.items(dice, spec)
            sorts = dice.sample(SORTS, dice.randint(1, 3)) if turn % 3 else list(SORTS)
            right.append(self.compare(spec, items, dice.choice(PLACES), most, sorts))
        self.assertGreater(min(right.count(True), right.count(False)), 10)

    def test_right_templates(self):
        dice = random.Random(49)
        for turn in range(10):
            spec = dice.choice(small_specs(2))
            items = dice_templates.with_full_keys(dice_templates.items(dice, spec))
            for place in PLACES:
                self.assertIsNone(is_right_for(Template(Shape(*spec), items), Rule(place), list(SORTS), 2))

    def test_each_sort_by_itself(self):
        spec = (["on"], {"todo": one({"mark": ("new", "old")})})
        for items, wrong in (
            ([("for", "todo", [part("a")])], ["insert", "move", "remove"]),
            ([("for", "todo", [part("a", ("id",))]), part("end")], ["append", "cut", "insert", "remove"]),
            ([("for", "todo", [part("a", ("field", "mark"))])], ["field", "insert", "move", "remove"]),
            ([("if", ("flag", "on"), [part("b")], []), part("a")], ["flag"]),
            ([("if", ("empty", "todo"), [part("b")], []), part("a")], ["append", "cut", "insert", "remove"]),
            ([("for", "todo", [part("a", ("id",), [("if", ("field", "mark", "new"), [part("b")], []), part("c")])])],
             ["field"]),
        ):
            found = [sort for sort in SORTS if not self.compare(spec, items, "all", 2, [sort])]
            self.assertEqual(sorted(found), wrong)
            self.assertIsNone(is_right_for(Template(Shape(*spec), items), Rule(), [], 2))

    def test_right_for_few_rows_and_wrong_for_more(self):
        spec = ([], {"todo": one()})
        items = [("for", "todo", [part("row")])]
        template = Template(Shape(*spec), items)
        self.assertIsNotNone(is_right(template, Rule()))
        # One row alone has nothing to be confused with; behind two rows the last one can be taken out.
        for sorts, wanted in ((["cut", "append", "move"], [True, False, False]), (["append", "cut"], [True] * 3),
                              (["remove", "insert"], [True, False, False])):
            told = [self.compare(spec, items, "all", most, sorts) for most in (1, 2, 3)]
            self.assertEqual(told, wanted)

    def test_two_deeds_may_do_what_one_does_not(self):
        spec = ([], {"todo": one()})
        template = Template(Shape(*spec), [("for", "todo", [part("row")])])
        for most in (1, 2, 3):
            self.assertIsNone(is_right_for(template, Rule(), ["append", "cut"], most))
        # Cut and append together put another row in the place of the last one.
        row = {"id": 1, "fields": {}, "lists": {}}
        old, new = [{"flags": {}, "lists": {"todo": [{**row, "id": number}]}} for number in (1, 2)]
        self.assertNotEqual(faults(Rule(), draw(template, old), draw(template, new)), [])

    def test_inner_lists(self):
        spec = ([], {"todo": one({}, {"step": one()})})
        items = [("for", "todo", [part("a", ("id",), [("for", "step", [part("b")])])])]
        for sort in SORTS:
            self.compare(spec, items, "plain", 2, [sort])
        self.assertIsNone(is_right_for(Template(Shape(*spec), items), Rule(), ["append", "cut"], 2))
        self.assertIsNotNone(is_right_for(Template(Shape(*spec), items), Rule(), ["move"], 2))
        self.assertIsNone(is_right_for(Template(Shape(*spec), items), Rule(), ["move"], 1))


class Limits(unittest.TestCase):
    def test_1000_data(self):
        words = {"mark": ("new", "old")}
        tried = []
        for spec in dice_templates.specs() + [(["a", "b"], {"todo": one(words)}), (["a"], {"todo": one(words), "menu": one()}),
                                              ([], {"todo": one(words), "menu": one(words)}), ([], {})]:
            template = Template(Shape(*spec), [part("a"), group()])
            for most in (1, 2, 3):
                many = count_data(Shape(*spec), most, ids=most + 1)
                tried.append(many)
                for sorts in (list(SORTS), []):
                    for place in PLACES:
                        told = outcome(is_right_for, template, Rule(place), sorts, most)
                        self.assertEqual(told, ("LimitExceeded", 1000) if many > 1000 else None)
        self.assertTrue([many for many in tried if 900 < many <= 1000])
        self.assertTrue([many for many in tried if 1000 < many < 1100 or many > 1100])

    def test_wrong_templates_and_too_many_data(self):
        fields = {"f": ("a", "b", "c"), "g": ("a", "b", "c")}
        shape = Shape(["x"], {"todo": one(fields, {"step": one(fields)})})
        template = Template(shape, [("for", "todo", [part("a")])])
        self.assertEqual(count_data(shape, 1, ids=2), 686)
        started = time.monotonic()
        self.assertEqual(outcome(is_right_for, template, Rule(), ["append"], 2), ("LimitExceeded", 1000))
        self.assertIsNone(is_right_for(template, Rule(), list(SORTS), 1))
        self.assertLess(time.monotonic() - started, 20)


class Results(unittest.TestCase):
    def test_all_is_new(self):
        spec = (["on"], {"todo": one({"mark": ("new", "old")})})
        items = [("for", "todo", [part("a")])]
        template = Template(Shape(*spec), items)
        sorts = ["insert", "move"]
        told = is_right_for(template, Rule(), sorts, 2)
        wanted = exactly(told)
        clear(told)
        self.assertEqual(exactly(is_right_for(template, Rule(), sorts, 2)), wanted)
        self.assertEqual([sorts, template.spread()], [["insert", "move"], items])


if __name__ == "__main__":
    unittest.main()
