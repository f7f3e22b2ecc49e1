"""The desk (points 60 to 63)."""

import copy
import random
import unittest

import chance
import dice_templates
import expected
import expected_desk
from expected_desk import Model, insert_paths, item_paths, told
from helpers import clear, exactly, outcome
from samples import chain, group, one, part, rich, rich_items
from statestay.desk import Desk
from statestay.matching import Rule
from statestay.shapes import Shape
from statestay.templates import Template
from statestay.verdicts import verdicts

PLACES = ("all", "plain")
SPEC = (["on"], {"todo": one({"mark": ("new", "old")}, {"step": one()})})
WRONG_ITEMS = [("slot",), ("piece", "a", []), part("A"), part("a", ("id",)), group([], ("field", "mark")), None, [],
               ("if", ("flag", "off"), [], []), ("for", "zz", []), ("part", "a", None), ("if", ("flag", "on"), []),
               ("for", "todo", [("for", "step", [])]), chain(9)[0], ("group", None, [part("a")] * 24), "part", ()]


def desk_of(items, place="all", spec=SPEC):
    return Desk(Template(Shape(*spec), items), Rule(place))


def set_by_sign(desk, path, item):
    desk[path] = item


class Pair:
    """A desk and a model of it, to which the same is done."""

    def __init__(self, case, dice, spec, items):
        self.case = case
        self.dice = dice
        self.spec = spec
        place = dice.choice(PLACES)
        self.desk = desk_of(items, place, spec)
        self.model = Model(spec, items, place)

    def compare(self):
        self.case.assertEqual(exactly(told(self.desk)), exactly(self.model.told()))
        items = self.model.items()
        for path, item in expected.listed(items)[:6]:
            self.case.assertEqual(exactly(self.desk[path]), exactly(item))

    def step(self):
        deeds = [self.do] * 6 + [self.batch] * 3 + [self.undo] * 4 + [self.redo] * 3 + [self.sign]
        self.dice.choice(deeds + [self.rule, self.trial, self.trial, self.ask])()
        self.compare()

    def some_item(self):
        if self.dice.random() < 0.12:
            return copy.deepcopy(self.dice.choice(WRONG_ITEMS))
        found = dice_templates.items(self.dice, self.spec)
        return self.dice.choice([item for path, item in expected.listed(found)][:4] + [part("a"), group([part("b")])])

    def some_edit(self, items):
        form = self.dice.choice(["set", "insert", "insert", "remove"])
        several = insert_paths(items) if form == "insert" else item_paths(items)
        path = self.dice.choice(several + [()])
        what = self.dice.random()
        if what < 0.15 and path:
            at = self.dice.randrange(len(path))
            path = path[:at] + (path[at] + self.dice.choice([-1, 1, 1, 5]),) + path[at + 1:]
        elif what < 0.2:
            path = self.dice.choice([path + (0,), path[:-1], path + (0, 0), path + (1, 0), path + path])
        return (form, path) if form == "remove" else (form, path, self.some_item())

    def some_edits(self):
        """Edits that mostly fit one after the other."""
        edits = []
        items = self.model.items()
        while self.dice.random() < 0.7 and len(edits) < 4:
            edit = self.some_edit(items)
            after = self.model.after([[edit]], items)
            if type(after) is tuple and self.dice.random() < 0.7:
                continue
            edits.append(edit)
            items = items if type(after) is tuple else after
        return edits

    def do(self):
        edit = self.some_edit(self.model.items())
        self.case.assertEqual(outcome(self.desk.do, edit), self.model.batch([edit]))

    def sign(self):
        form, path, *item = self.some_edit(self.model.items())
        item = item[0] if item else part("c")
        self.case.assertEqual(outcome(set_by_sign, self.desk, path, item), self.model.batch([("set", path, item)]))

    def batch(self):
        edits = self.some_edits()
        before = exactly(edits)
        self.case.assertEqual(outcome(self.desk.batch, edits), self.model.batch(edits))
        self.case.assertEqual(exactly(edits), before)
        # What was handed in is the desk's own from now on.
        clear(edits)

    def undo(self):
        self.case.assertEqual(outcome(self.desk.undo), self.model.undo())

    def redo(self):
        self.case.assertEqual(outcome(self.desk.redo), self.model.redo())

    def rule(self):
        self.model.place = self.dice.choice(PLACES)
        self.desk.use_rule(Rule(self.model.place))

    def trial(self):
        edits = self.some_edits()
        result = self.model.after([edits], self.model.items())
        before = exactly(edits)
        if type(result) is tuple:
            self.case.assertEqual(outcome(self.desk.trial, edits), result)
        else:
            self.case.assertEqual(exactly(self.desk.trial(edits)), exactly(self.model.score(result)))
        self.case.assertEqual(exactly(edits), before)

    def ask(self):
        items = self.model.items()
        every = item_paths(items)
        for path in insert_paths(items) + [(), (0, 0), (99,), (-1,), (0, 2, 0)]:
            self.case.assertIs(path in self.desk, path in every)
            self.case.assertEqual(outcome(lambda: self.desk[path]), None if path in every else ("NoItem", path))


class Series(unittest.TestCase):
    def test_long_series(self):
        dice = random.Random(60)
        for turn in range(24):
            several = chance if turn % 4 == 0 else dice_templates
            spec = dice.choice(several.specs())
            pair = Pair(self, dice, spec, several.items(dice, spec))
            pair.compare()
            for step in range(30):
                pair.step()

    def test_two_desks_side_by_side(self):
        dice = random.Random(61)
        for turn in range(4):
            spec = dice.choice(dice_templates.specs())
            items = dice_templates.items(dice, spec)
            pairs = [Pair(self, dice, spec, items) for number in range(2)]
            template = pairs[0].desk.current()
            pairs.append(Pair(self, dice, spec, items))
            pairs[2].desk = Desk(template, Rule(pairs[2].model.place))
            for step in range(25):
                dice.choice(pairs).step()
                for pair in pairs:
                    pair.compare()


class ByHand(unittest.TestCase):
    items = [("for", "todo", [part("row", None, [part("b")])]), ("if", ("flag", "on"), [part("a")], []), part("end")]

    def test_the_first_template(self):
        items, pieces = rich_items()
        template = Template(Shape(*rich()), items, pieces=pieces)
        desk = Desk(template, Rule("plain"))
        self.assertEqual(exactly(desk.current().spread()), exactly(template.spread()))
        self.assertTrue(desk.current() == template)
        self.assertIsInstance(desk.current(), Template)
        self.assertEqual([len(desk), desk.rule == Rule("plain"), len(desk.trail())], [0, True, 1])
        for path in template.paths():
            self.assertIs(path in desk, True)
            self.assertEqual(exactly(desk[path]), exactly(template.item_at(path)))
        self.assertEqual(outcome(desk.undo), ("NothingToUndo",))
        self.assertEqual(outcome(desk.redo), ("NothingToRedo",))

    def test_each_edit(self):
        desk = desk_of(self.items)
        self.assertIsNone(desk.do(("set", (0, 0, 0, 0, 0), group())))
        self.assertIsNone(desk.do(("insert", (1, 1, 0), part("c", ("word", "w")))))
        self.assertIsNone(desk.do(("insert", (0, 0, 1), part("d", ("id",)))))
        self.assertIsNone(desk.do(("remove", (2,))))
        self.assertEqual(desk.current().spread(), [
            ("for", "todo", [part("row", None, [group()]), part("d", ("id",))]),
            ("if", ("flag", "on"), [part("a")], [part("c", ("word", "w"))])])
        self.assertEqual(len(desk), 4)
        desk[(1,)] = part("e")
        self.assertEqual([desk[(1,)], len(desk)], [part("e"), 5])
        self.assertEqual([(2,) in desk, (1,) in desk, (0, 0, 1) in desk, (0, 1, 0) in desk], [False, True, True, False])

    def test_places_of_an_insert(self):
        wanted = [(0,), (1,), (2,), (3,), (0, 0, 0), (0, 0, 1), (0, 0, 0, 0, 0), (0, 0, 0, 0, 1), (0, 0, 0, 0, 0, 0, 0),
                  (1, 0, 0), (1, 0, 1), (1, 0, 0, 0, 0), (1, 1, 0), (2, 0, 0)]
        self.assertEqual(sorted(insert_paths(self.items)), sorted(wanted))
        for path in wanted + [(), (4,), (-1,), (0, 0), (0, 0, 2), (0, 1, 0), (1, 2, 0), (1, 1, 1), (1, -1, 0), (2, 0, 1),
                              (2, 1, 0), (3, 0, 0), (1, 1, 0, 0, 0), (0, 0, 0, 1, 0), (0, 0, -1), (5, 0, 0)]:
            desk = desk_of(self.items)
            told = outcome(desk.do, ("insert", path, part("new")))
            self.assertEqual(told, None if path in wanted else ("NoItem", path))
            if told is None:
                self.assertEqual(desk[path], part("new"))
                desk.do(("remove", path))
                self.assertEqual(desk.current().spread(), self.items)
            # No place in a list comes before what Template tells.
            self.assertEqual(outcome(desk.do, ("insert", path, ("slot",))),
                             ("InvalidTemplate", "form", path) if path in wanted else ("NoItem", path))

    def test_errors_change_nothing(self):
        for place in PLACES:
            desk = desk_of(self.items, place)
            desk.do(("remove", (1,)))
            desk.batch([])
            desk.do(("set", (1,), part("late")))
            desk.undo()
            before = exactly(told(desk))
            edits = [("set", (7,), part("a")), ("remove", (0, 1, 0)), ("insert", (9,), part("a")), ("remove", ())]
            edits += [("set", (1,), item) for item in WRONG_ITEMS] + [("insert", (0,), item) for item in WRONG_ITEMS]
            edits += [("insert", (2,), ("for", "todo", []))]
            model = Model(SPEC, desk.current().spread(), place)
            for edit in edits:
                wanted = model.after([[edit]])
                self.assertIs(type(wanted), tuple, edit)
                self.assertEqual(outcome(desk.do, edit), wanted)
                self.assertEqual(outcome(desk.batch, [edit]), wanted)
                self.assertEqual(outcome(desk.trial, [edit]), wanted)
                fine = [("insert", (0,), part("z")), ("remove", (0,))]
                self.assertEqual(outcome(desk.batch, fine + [edit] + fine), wanted)
                self.assertEqual(outcome(desk.trial, fine + [edit] + fine), wanted)
                self.assertEqual(exactly(told(desk)), before)
            self.assertEqual(outcome(lambda: desk[(7,)]), ("NoItem", (7,)))
            self.assertEqual(outcome(set_by_sign, desk, (0, 0, 5), part("a")), ("NoItem", (0, 0, 5)))
            desk.redo()
            self.assertEqual(desk[(1,)], part("late"))
            self.assertEqual(outcome(desk.redo), ("NothingToRedo",))

    def test_the_template_after_each_edit_of_a_batch_must_be_valid(self):
        desk = desk_of(self.items)
        edits = [("insert", (3,), ("for", "todo", [part("x")])), ("remove", (0,))]
        self.assertEqual(outcome(desk.batch, edits), ("InvalidTemplate", "list", (3,)))
        self.assertEqual(len(desk), 0)
        desk.batch(edits[::-1][:1] + [("insert", (2,), ("for", "todo", [part("x")]))])
        self.assertEqual([len(desk), desk.current().parts()], [1, [(0, 0, 0), (1,), (2, 0, 0)]])

    def test_an_empty_batch_is_a_step(self):
        desk = desk_of(self.items)
        desk.do(("remove", (0,)))
        desk.undo()
        desk.batch([])
        self.assertEqual([len(desk), len(desk.trail())], [1, 2])
        self.assertEqual(outcome(desk.redo), ("NothingToRedo",))
        desk.undo()
        self.assertEqual(len(desk), 0)
        desk.redo()
        self.assertEqual([len(desk), desk.current().spread()], [1, self.items])

    def test_many_steps(self):
        desk = desk_of([])
        for step in range(120):
            desk.do(("insert", (0,), part("a")) if step % 20 < 10 else ("remove", (0,)))
        self.assertEqual(len(desk), 120)
        trail = desk.trail()
        for step in range(120):
            desk.undo()
            self.assertEqual([len(desk), desk.trail()], [119 - step, trail[:120 - step]])
        self.assertEqual(outcome(desk.undo), ("NothingToUndo",))
        for step in range(120):
            desk.redo()
        self.assertEqual([desk.trail(), outcome(desk.redo)], [trail, ("NothingToRedo",)])

    def test_rules(self):
        items = [("for", "todo", [part("row", ("id",))]), part("end")]
        rule = Rule("all")
        desk = Desk(Template(Shape(*SPEC), items), rule)
        desk.do(("insert", (0,), part("head")))
        self.assertEqual([desk.score(), desk.trail(), desk.rule == Rule("all")], [(1, 0), [(1, 0), (1, 0)], True])
        desk.undo()
        self.assertIsNone(desk.use_rule(Rule("plain")))
        self.assertEqual([desk.score(), desk.trail(), len(desk)], [(0, 0), [(0, 0)], 0])
        self.assertEqual([desk.rule == Rule("plain"), desk.rule.place], [True, "plain"])
        desk.redo()
        self.assertEqual([desk.rule.place, desk.trail()], ["plain", [(0, 0), (0, 0)]])
        with self.assertRaises(AttributeError):
            desk.rule = Rule("all")
        self.assertEqual(desk.rule.place, "plain")
        rule.place = "plain"
        other = Rule("plain")
        desk.use_rule(other)
        other.place = "all"
        self.assertEqual([desk.rule.place, desk.score()], ["plain", (0, 0)])
        told = desk.rule
        told.place = "all"
        self.assertEqual([desk.rule.place, desk.score()], ["plain", (0, 0)])

    def test_the_worked_scores(self):
        items = [("for", "todo", [part("row")]), part("end")]
        desk = desk_of(items)
        self.assertEqual(exactly([desk.score(), desk.trail()]), exactly([(2, 1), [(2, 1)]]))
        self.assertEqual(exactly(desk.trial([("remove", (1,))])), exactly((1, 1)))
        self.assertEqual(exactly(desk.trial([])), exactly((2, 1)))
        desk = desk_of([("if", ("flag", "on"), [part("a"), part("b")], [part("a"), part("b")])])
        self.assertEqual(desk.score(), (0, 4))
        table = verdicts(desk.current(), Rule())
        self.assertEqual(sum([len(mixed) for lost, mixed in table.values()]), 4)

    def test_changes_of_what_was_handed_in_or_told(self):
        items = copy.deepcopy(self.items)
        desk = desk_of(items)
        inside = [part("x")]
        edits = [("insert", (0,), ("group", None, inside)), ("set", (3,), ("part", "y", None, inside))]
        desk.batch(edits)
        item = group([part("z")])
        desk[(3,)] = item
        before = exactly(told(desk))
        for value in (items, inside, edits, item, desk.trail(), desk[(0,)], desk.current().spread(), desk.current().paths()):
            clear(value)
        self.assertEqual(exactly(told(desk)), before)
        desk.undo()
        self.assertEqual(desk[(3,)], part("y", None, [part("x")]))

    def test_a_desk_is_not_iterated_over(self):
        with self.assertRaises(TypeError):
            list(desk_of(self.items))

    def test_only_parts_count(self):
        desk = desk_of([("for", "todo", [group([part("a")])]), group()])
        self.assertEqual(desk.score(), (1, 1))
        self.assertEqual(desk.trial([("set", (0,), ("for", "todo", [group()]))]), (0, 0))


if __name__ == "__main__":
    unittest.main()
