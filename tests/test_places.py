"""The indexes that a node can have, and data for them (point 44)."""

import random
import time
import unittest

import dice_templates
import expected
from expected_verdicts import addresses, larger_data, node_paths, seen, small_data, wrong_paths
from helpers import clear, exactly, outcome
from samples import group, one, part, rich, rich_items
from statestay.drawing import draw
from statestay.matching import Rule
from statestay.matching import addresses as addresses_of
from statestay.shapes import Shape, check
from statestay.templates import Template
from statestay.verdicts import data_at, places

PLACES = ("all", "plain")
SPECS = dice_templates.specs()


def indexes_in(items, place, path, data):
    """The indexes of the nodes with a path in a drawing."""
    return {address[-1][2] for owner, (kind, address) in addresses(items, place, data).items() if owner[0] == path}


class Many(unittest.TestCase):
    def compare(self, template, place, path, reached=(), most=100):
        """Check places up to 100 and data_at for all indexes; what is reached in drawings must be among the places."""
        rule = Rule(place)
        told = places(template, rule, path, most)
        self.assertEqual(exactly(told), exactly(sorted(set(told) & set(range(most + 1)))))
        self.assertLessEqual(set(reached), set(told))
        for less in (0, 1, most // 2, most - 1):
            self.assertEqual(places(template, rule, path, less), [index for index in told if index <= less])
        for index in list(range(12)) + list(range(12, most + 1, 11)):
            data = data_at(template, rule, path, index)
            self.assertEqual(data is not None, index in told)
            if data is not None:
                check(template.shape, data)
                self.assertIn(index, indexes_in(template.spread(), place, path, data))
        return told

    def test_templates_that_dice_choose(self):
        dice = random.Random(44)
        for turn in range(90):
            number = turn % len(SPECS)
            spec = SPECS[number]
            items = dice_templates.items(dice, spec)
            place = PLACES[turn // len(SPECS) % 2]
            several = small_data(spec)
            several = dice.sample(several, min(len(several), 80)) + larger_data(dice, spec, 30)
            reached = seen(items, place, several)[2]
            template = Template(Shape(*spec), items)
            for path in node_paths(items):
                self.compare(template, place, path, [index for other, index in reached if other == path])

    def test_each_index(self):
        dice = random.Random(45)
        for turn in range(12):
            spec = SPECS[turn % len(SPECS)]
            items = dice_templates.items(dice, spec)
            template = Template(Shape(*spec), items)
            rule = Rule(PLACES[turn % 2])
            path = dice.choice(node_paths(items) or [(0,)])
            if template.item_at(path)[0] not in ("part", "group"):
                continue
            told = places(template, rule, path, 100)
            for index in range(101):
                data = data_at(template, rule, path, index)
                self.assertEqual(data is not None, index in told)
                if data is not None:
                    table = addresses_of(rule, draw(template, data))
                    self.assertIn(index, [at[-1][2] for owner, at in table.items() if owner[0] == path])


class ByHand(unittest.TestCase):
    def places(self, spec, items, path, most=100, place="all"):
        return places(Template(Shape(*spec), items), Rule(place), path, most)

    def test_the_worked_example(self):
        spec = ([], {"things": one()})
        items = [("for", "things", [part("row")]), part("end")]
        for place in PLACES:
            self.assertEqual(self.places(spec, items, (0, 0, 0), 100, place), list(range(101)))
            self.assertEqual(self.places(spec, items, (1,), 100, place), list(range(101)))
            self.assertEqual(self.places(spec, items, (1,), 0, place), [0])
        items = [("for", "things", [part("row", ("id",))]), part("end")]
        self.assertEqual(self.places(spec, items, (0, 0, 0)), [0])
        self.assertEqual(self.places(spec, items, (1,)), list(range(101)))
        self.assertEqual(self.places(spec, items, (1,), 100, "plain"), [0])

    def test_as_many_rows_as_are_needed(self):
        spec = ([], {"things": one()})
        template = Template(Shape(*spec), [("for", "things", [part("row")]), part("end")])
        for index in (0, 1, 57, 99, 100):
            self.assertEqual(len(data_at(template, Rule(), (1,), index)["lists"]["things"]), index)
            self.assertGreater(len(data_at(template, Rule(), (0, 0, 0), index)["lists"]["things"]), index)

    def test_multiples(self):
        spec = ([], {"todo": one()})
        for many in range(1, 22):
            items = [("for", "todo", [part("b", ("id",))] * many), part("a")]
            self.assertEqual(self.places(spec, items, (1,)), list(range(0, 101, many)))

    def test_sums_of_two_lists(self):
        spec = ([], {"todo": one(), "menu": one()})
        for p, q in ((2, 3), (3, 5), (4, 6), (7, 9), (1, 8), (5, 5), (9, 10)):
            items = [("for", "todo", [part("b", ("id",))] * p), ("for", "menu", [group()] * q), part("a")]
            wanted = {p * many + q * more for many in range(101) for more in range(101)}
            self.assertEqual(self.places(spec, items, (2,)), sorted(wanted & set(range(101))))
            template = Template(Shape(*spec), items)
            for index in range(101):
                data = data_at(template, Rule(), (2,), index)
                self.assertEqual(data is not None, index in wanted)
                if data is not None:
                    many, more = [len(data["lists"][name]) for name in ("todo", "menu")]
                    self.assertEqual(p * many + q * more, index)

    def test_fields_and_inner_lists(self):
        spec = ([], {"todo": one({"mark": ("new", "old", "odd")}, {"step": one()})})
        inside = [("if", ("field", "mark", "new"), [part("b", ("id",))] * 5, []),
                  ("if", ("empty", "step"), [], [part("b", ("id",))] * 7)]
        items = [("for", "todo", inside), part("a")]
        wanted = {5 * one + 7 * other + 12 * both for one in range(21) for other in range(21) for both in range(9)}
        self.assertEqual(self.places(spec, items, (1,)), sorted(wanted & set(range(101))))
        template = Template(Shape(*spec), items)
        for index in range(101):
            self.assertEqual(data_at(template, Rule(), (1,), index) is not None, index in wanted)

    def test_a_list_that_must_have_rows(self):
        spec = ([], {"todo": one()})
        rows = [("for", "todo", [part("b", ("id",))] * 3)]
        items = [("if", ("empty", "todo"), [part("a")], rows + [part("a")])]
        self.assertEqual(self.places(spec, items, (0, 0, 0)), [0])
        self.assertEqual(self.places(spec, items, (0, 1, 1)), list(range(3, 101, 3)))

    def test_keys_of_siblings(self):
        spec = ([], {"todo": one({"mark": ("new", "old")})})
        items = [part("a", ("word", "w")), ("for", "todo", [part("a", ("word", "w")), part("a", ("id",)),
                                                             part("b", ("word", "w"))]), part("a", ("word", "w"))]
        self.assertEqual(self.places(spec, items, (2,)), list(range(1, 101)))
        self.assertEqual(self.places(spec, items, (1, 0, 0), 9), list(range(1, 10)))
        self.assertEqual(self.places(spec, items, (1, 0, 1)), [0])
        self.assertEqual(self.places(spec, items, (1, 0, 2), 9), list(range(10)))

    def test_an_id_that_one_row_has(self):
        spec = ([], {"todo": one({}, {"step": one()})})
        items = [("for", "todo", [group([
            ("for", "step", [part("a", ("id",))] * 3), part("a", ("up", ("word", "w"))), part("a", ("id",))])])]
        self.assertEqual(self.places(spec, items, (0, 0, 0, 0, 2)), [0, 3])
        self.assertEqual(self.places(spec, items, (0, 0, 0, 0, 0, 0, 1)), [1])
        inside = [part("a", ("id",)), ("for", "step", [part("a", ("id",))] * 2), part("a", ("id",))]
        self.assertEqual(self.places(spec, [("for", "todo", [group(inside)])], (0, 0, 0, 0, 2)), [1, 3])
        inside[1] = ("if", ("empty", "step"), [], inside[1:2])
        self.assertEqual(self.places(spec, [("for", "todo", [group(inside)])], (0, 0, 0, 0, 2)), [1, 3])
        template = Template(Shape(*spec), items)
        row = data_at(template, Rule(), (0, 0, 0, 0, 2), 3)["lists"]["todo"][-1]
        self.assertIn(row["id"], [step["id"] for step in row["lists"]["step"]])

    def test_what_is_never_drawn(self):
        spec = (["on"], {"todo": one()})
        items = [("if", ("flag", "on"), [("if", ("not", ("flag", "on")), [part("a")], [])], [])]
        self.assertEqual(self.places(spec, items, (0, 0, 0, 0, 0)), [])
        self.assertIsNone(data_at(Template(Shape(*spec), items), Rule(), (0, 0, 0, 0, 0), 0))
        # The group could stand at 0 and 1, but a part stands ahead of it where it is drawn.
        items = [("if", ("flag", "on"), [part("b")], []), ("if", ("flag", "on"), [group([part("a")])], [])]
        self.assertEqual(self.places(spec, items, (1, 0, 0)), [1])

    def test_the_levels_further_out_must_be_drawn(self):
        spec = (["on"], {"todo": one()})
        inside = [("if", ("flag", "on"), [part("b")], []), part("a")]
        items = [("if", ("flag", "on"), [group(inside)], [])]
        self.assertEqual(self.places(spec, items, (0, 0, 0, 0, 1)), [1])
        items = [("for", "todo", [group([("if", ("up", ("empty", "todo")), [part("b")], []), part("a")])])]
        self.assertEqual(self.places(spec, items, (0, 0, 0, 0, 1)), [0])

    def test_groups(self):
        spec = (["on"], {"todo": one()})
        items = [("for", "todo", [group([group()], ("word", "w"))]), group([], ("word", "w"))]
        self.assertEqual(self.places(spec, items, (0, 0, 0), 5), [0, 1, 2, 3, 4, 5])
        self.assertEqual(self.places(spec, items, (0, 0, 0, 0, 0), 5), [0])
        self.assertEqual(self.places(spec, items, (1,), 5), [0, 1, 2, 3, 4, 5])


class WrongPaths(unittest.TestCase):
    def test_no_item(self):
        items, pieces = rich_items()
        template = Template(Shape(*rich()), items, pieces=pieces)
        forks = [path for path in template.paths() if template.item_at(path)[0] in ("if", "for")]
        self.assertTrue(forks)
        for path in forks + wrong_paths(template.spread()):
            for most in (0, 100):
                self.assertEqual(outcome(places, template, Rule(), path, most), ("NoItem", path))
                self.assertEqual(outcome(data_at, template, Rule(), path, most), ("NoItem", path))
        for path in node_paths(template.spread()):
            self.assertIsNone(outcome(places, template, Rule(), path, 3))
            self.assertIsNone(outcome(data_at, template, Rule(), path, 3))


class Results(unittest.TestCase):
    def test_all_is_new(self):
        spec = (["on"], {"todo": one({"mark": ("new", "old")}, {"step": one()})})
        items = [("for", "todo", [part("b"), ("if", ("empty", "step"), [], [part("b")])]), part("a")]
        template = Template(Shape(*spec), items)
        for call in (lambda: places(template, Rule(), (1,), 9), lambda: data_at(template, Rule(), (1,), 9)):
            told = call()
            wanted = exactly(told)
            clear(told)
            self.assertEqual(exactly(call()), wanted)
        rows = data_at(template, Rule(), (1,), 9)["lists"]["todo"]
        held = [row[key] for row in rows for key in ("fields", "lists")] + [row["lists"]["step"] for row in rows]
        self.assertEqual(len({id(value) for value in held}), len(held))
        self.assertEqual(exactly(template.spread()), exactly(items))


class Large(unittest.TestCase):
    def test_in_a_short_time(self):
        fields = {"f": ("a", "b", "c"), "g": ("a", "b", "c")}
        spec = (["x", "y"], {"todo": one(fields, {"step": one(fields)}), "menu": one(fields, {"bite": one(fields)})})
        key = ("both", ("both", ("field", "f"), ("field", "g")), ("up", ("both", ("field", "f"), ("field", "g"))))
        tests = [("flag", "x"), ("up", ("field", "f", "b")), ("field", "g", "b"), ("up", ("up", ("empty", "menu")))]
        steps = [("if", test, [part("a", key)], []) for test in tests] + [part("a", key)] * 8
        items = [("for", "todo", [group([("for", "step", steps)])]), ("for", "menu", [part("a")] * 3)]
        template = Template(Shape(*spec), items)
        self.assertEqual(expected.template_error(spec, items, None), None)
        started = time.monotonic()
        for rule in (Rule("all"), Rule("plain")):
            for path in node_paths(items):
                for index in places(template, rule, path, 100)[-1:]:
                    self.assertIn(index, indexes_in(items, rule.place, path, data_at(template, rule, path, index)))
        self.assertLess(time.monotonic() - started, 30)


if __name__ == "__main__":
    unittest.main()
