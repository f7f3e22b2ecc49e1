"""The examples of the document, as they stand there, and those of README.md."""

import pathlib
import re
import unittest

from statestay.changes import SORTS, apply, is_right_for
from statestay.desk import Desk
from statestay.drawing import Node, draw
from statestay.matching import Rule, faults, match
from statestay.moves import done, least_moves, shifts
from statestay.repairs import candidates, full_key, repairs
from statestay.right import is_right
from statestay.screens import Screen
from statestay.shapes import Shape, all_data, check, count_data
from statestay.templates import Template
from statestay.texts import read_data, read_shape, read_template, write_data, write_shape, write_template
from statestay.verdicts import losing, places, verdicts
from helpers import outcome


class Examples(unittest.TestCase):
    def test_shape(self):
        inner = {"fields": {}, "inner": {}}
        shape = Shape(["open", "dark"], {"todo": {"fields": {"mark": ("new", "old")}, "inner": {"step": inner}}})
        self.assertEqual(
            [shape.flags, shape.outer(), shape.inner("todo"), shape.parent("step"), shape.fields("todo")],
            [('dark', 'open'), ['todo'], ['step'], 'todo', {'mark': ('new', 'old')}])

    def test_invalid_shape(self):
        told = outcome(Shape, [], {"todo": {"fields": {"mark": ("new", "new")}, "inner": {}}})
        self.assertEqual(told, ("InvalidShape", "fields"))

    def test_invalid_data(self):
        shape = Shape(["on"], {"todo": {"fields": {}, "inner": {}}})
        row = {"id": 5, "fields": {}, "lists": {}}
        told = outcome(check, shape, {"flags": {"on": True}, "lists": {"todo": [row, row]}})
        self.assertEqual(told, ("InvalidData", ('lists', 'todo', 1, 'id')))

    def test_count_data(self):
        shape = Shape(["on"], {"todo": {"fields": {}, "inner": {}}})
        self.assertEqual([count_data(shape, 2), count_data(shape, 3, ids=4)], [10, 82])
        self.assertEqual(2 * (1 + 2 + 2), len(list(all_data(shape, 2, ids=2))))

    def test_spread_out(self):
        shape = Shape([], {})
        pieces = {"field": [("part", "label", None, []), ("slot",)]}
        items = [("piece", "field", [("part", "input", None, [])]), ("piece", "field", [])]
        template = Template(shape, items, pieces=pieces)
        self.assertEqual(template.spread(), [
            ("part", "label", None, []), ("part", "input", None, []), ("part", "label", None, [])])
        self.assertEqual(template.paths(), [(0,), (1,), (2,)])

    def test_template(self):
        shape = Shape([], {"todo": {"fields": {}, "inner": {}}})
        pieces = {"field": [("part", "label", None, []), ("slot",)]}
        rows = ("for", "todo", [("part", "row", ("id",), [])])
        items = [("piece", "field", [rows]), ("piece", "field", [])]
        template = Template(shape, items, pieces=pieces)
        self.assertEqual([template.paths(), template.parts(), template.rows_around((1, 0, 0))],
                         [[(0,), (1,), (1, 0, 0), (2,)], [(0,), (1, 0, 0), (2,)], ('todo',)])

    def test_invalid_template(self):
        shape = Shape([], {"todo": {"fields": {}, "inner": {}}})
        told = outcome(Template, shape, [("for", "todo", [("part", "row", ("up", ("id",)), [])])])
        self.assertEqual(told, ("InvalidTemplate", 'key', (0, 0, 0)))

    def test_draw(self):
        shape = Shape(["on"], {"todo": {"fields": {}, "inner": {}}})
        first = [("part", "note", None, [])]
        items = [("if", ("flag", "on"), first, []), ("for", "todo", [("part", "row", ("id",), [])])]
        rows = [{"id": 5, "fields": {}, "lists": {}}, {"id": 3, "fields": {}, "lists": {}}]
        nodes = draw(Template(shape, items), {"flags": {"on": True}, "lists": {"todo": rows}})
        self.assertEqual(
            [[nodes[0].kind, nodes[0].key, nodes[0].owner], [nodes[2].kind, nodes[2].key, nodes[2].owner]],
            [['note', None, ((0, 0, 0), ())], ['row', ('id', 3), ((1, 0, 0), (3,))]])
        self.assertEqual([(node.kind, node.key, node.owner, node.below()) for node in nodes], [
            ("note", None, ((0, 0, 0), ()), []), ("row", ("id", 5), ((1, 0, 0), (5,)), []),
            ("row", ("id", 3), ((1, 0, 0), (3,)), [])])

    def test_slots(self):
        nodes = [Node("a", ("id", 1), ((0,), ())), Node("b", None, ((1,), ())), Node("a", ("id", 1), ((2,), ()))]
        self.assertEqual([Rule()(nodes), Rule(Rule.PLAIN)(nodes)], [
            [('a', ('id', 1), 0), ('b', None, 1), ('a', ('id', 1), 1)],
            [('a', ('id', 1), 0), ('b', None, 0), ('a', ('id', 1), 1)]])

    def test_match_and_faults(self):
        old = [Node("row", None, ((0, 0, 0), (5,))), Node("row", None, ((0, 0, 0), (3,)))]
        new = [Node("row", None, ((0, 0, 0), (3,)))]
        self.assertEqual([match(Rule(), old, new), faults(Rule(), old, new)], [
            [(((0, 0, 0), (5,)), ((0, 0, 0), (3,)))],
            [('lost', ((0, 0, 0), (3,))), ('mixed', ((0, 0, 0), (5,)), ((0, 0, 0), (3,)))]])

    def test_faults_of_two_drawings(self):
        shape = Shape(["on"], {"todo": {"fields": {}, "inner": {}}})
        items = [("if", ("flag", "on"), [("part", "note", None, [])], []),
                 ("for", "todo", [("part", "row", None, [])])]
        template = Template(shape, items)
        old, new = [draw(template, {"flags": {"on": False}, "lists": {"todo": [
            {"id": number, "fields": {}, "lists": {}} for number in several]}}) for several in ((5, 3), (3,))]
        self.assertEqual(faults(Rule("all"), old, new), [
            ("lost", ((1, 0, 0), (3,))), ("mixed", ((1, 0, 0), (5,)), ((1, 0, 0), (3,)))])

    def test_screen(self):
        shape = Shape([], {"todo": {"fields": {}, "inner": {}}})
        one = {"id": 5, "fields": {}, "lists": {}}
        two = {"id": 3, "fields": {}, "lists": {}}
        template = Template(shape, [("for", "todo", [("part", "row", None, [])])])
        screen = Screen(template, Rule(), {"flags": {}, "lists": {"todo": [one, two]}})
        screen[((0, 0, 0), (5,))] = "milk"
        screen.put_focus(((0, 0, 0), (3,)))
        screen.show({"flags": {}, "lists": {"todo": [two]}})
        self.assertEqual([screen.states(), screen.focus, screen.lost(), screen.mixed()], [
            {((0, 0, 0), (3,)): 'milk'}, None, [((0, 0, 0), (3,))], [(((0, 0, 0), (5,)), ((0, 0, 0), (3,)))]])

    def test_shifts(self):
        several = [("remove", 0), ("move", 2, 0), ("insert", 2, "e")]
        self.assertEqual([done(["a", "b", "c", "d"], several), least_moves(["a", "b", "c", "d"], ["d", "b", "e", "c"])],
                         [['d', 'b', 'e', 'c'], 1])
        found = shifts(["a", "b", "c", "d"], ["d", "b", "e", "c"])
        self.assertEqual(sorted([shift[0] for shift in found]), ["insert", "move", "remove"])
        self.assertEqual(done(["a", "b", "c", "d"], found), ["d", "b", "e", "c"])

    def rows_and_an_end(self):
        shape = Shape(["on"], {"todo": {"fields": {}, "inner": {}}})
        items = [("for", "todo", [("part", "row", None, [])]), ("part", "end", None, [])]
        return Template(shape, items)

    def test_is_right(self):
        template = self.rows_and_an_end()
        keyed = template.with_item((0, 0, 0), ("part", "row", ("id",), []))
        self.assertEqual([is_right(keyed, Rule("plain")), is_right(keyed, Rule("all")) is None,
                          is_right(template, Rule("plain")) is None], [None, False, False])

    def test_verdicts(self):
        template = self.rows_and_an_end()
        told = verdicts(template, Rule())
        self.assertEqual([told[(0, 0, 0)], told[(1,)], places(template, Rule(), (1,), 3)],
                         [(True, [(0, 0, 0)]), (True, []), [0, 1, 2, 3]])

    def test_no_part(self):
        self.assertEqual(outcome(losing, self.rows_and_an_end(), Rule(), (0,)), ("NoItem", (0,)))

    def test_the_worked_example_of_verdicts(self):
        shape = Shape([], {"things": {"fields": {}, "inner": {}}})
        template = Template(shape, [("for", "things", [("part", "row", None, [])]), ("part", "end", None, [])])
        for rule in (Rule("all"), Rule("plain")):
            self.assertEqual(verdicts(template, rule), {(0, 0, 0): (True, [(0, 0, 0)]), (1,): (True, [])})
            for path in ((0, 0, 0), (1,)):
                self.assertEqual(places(template, rule, path, 100), list(range(101)))
        keyed = template.with_item((0, 0, 0), ("part", "row", ("id",), []))
        self.assertIsNone(is_right(keyed, Rule("plain")))
        self.assertEqual(verdicts(keyed, Rule("all")), {(0, 0, 0): (False, []), (1,): (True, [])})

    def test_sorts(self):
        self.assertEqual(SORTS, ("append", "cut", "insert", "remove", "move", "field", "flag"))

    def test_apply(self):
        shape = Shape(["on"], {"todo": {"fields": {}, "inner": {}}})
        rows = [{"id": number, "fields": {}, "lists": {}} for number in (5, 3, 8)]
        data = {"flags": {"on": True}, "lists": {"todo": rows}}
        after = apply(shape, data, ("move", ("todo",), 0, 2))
        self.assertEqual([after["lists"]["todo"][at]["id"] for at in range(3)], [3, 8, 5])
        told = outcome(apply, shape, {"flags": {"on": True}, "lists": {"todo": []}}, ("remove", ("todo",), 0))
        self.assertEqual(told, ("InvalidDeed", 'index'))

    def test_is_right_for(self):
        template = self.rows_and_an_end()
        self.assertEqual([is_right_for(template, Rule(), ["append"], 2) is None,
                          is_right_for(template, Rule(), ["flag", "field"], 2) is None], [False, True])

    def test_keys_and_candidates(self):
        template = self.rows_and_an_end()
        self.assertEqual([full_key(template, (0, 0, 0)), candidates(template)],
                         [('both', ('word', 'a'), ('id',)), [('key', (0, 0, 0)), ('key', (1,)), ('wrap', (0,))]])

    def test_repairs(self):
        self.assertEqual(repairs(self.rows_and_an_end(), Rule()),
                         [(('key', (0, 0, 0)), ('key', (1,))), (('key', (0, 0, 0)), ('wrap', (0,)))])

    def test_texts(self):
        shape = Shape(["on"], {"todo": {"fields": {}, "inner": {}}})
        items = [("if", ("not", ("flag", "on")), [("part", "note", None, [])], []),
                 ("for", "todo", [("part", "row", ("id",), [])])]
        text = 'if not flag on\n  part note none\nelse\nfor todo\n  part row id\n'
        self.assertEqual(write_template(Template(shape, items)), text)
        self.assertTrue(read_template(shape, text) == Template(shape, items))
        self.assertEqual(outcome(read_template, shape, "for todo\n  part row both id\n"), ("InvalidText", 2))
        step = {"fields": {}, "inner": {}}
        shape = Shape(["on"], {"todo": {"fields": {"mark": ("old", "new")}, "inner": {"step": step}}})
        row = {"id": 7, "fields": {"mark": "new"}, "lists": {"step": []}}
        data = {"flags": {"on": False}, "lists": {"todo": [row]}}
        told = ['flag on\nlist todo\n  field mark old new\n  list step\n',
                'flag on no\nlist todo\n  row 7 new\n    list step\n']
        self.assertEqual([write_shape(shape), write_data(shape, data)], told)
        self.assertTrue(read_shape(told[0]) == shape)
        self.assertEqual(read_data(shape, told[1]), data)

    def test_desk(self):
        desk = Desk(self.rows_and_an_end(), Rule())
        desk.batch([("remove", (1,)), ("insert", (0,), ("part", "head", None, []))])
        self.assertEqual([len(desk), desk.current().parts(), desk.score(), desk.trail()],
                         [1, [(0,), (1, 0, 0)], (1, 1), [(2, 1), (1, 1)]])

    def test_readme(self):
        text = (pathlib.Path(__file__).parent.parent / "README.md").read_text(encoding="utf-8")
        names = {}
        for block in re.findall(r"```python\n(.*?)```", text, re.DOTALL):
            exec(block, names)
        template, rule = names["template"], names["Rule"]()
        self.assertEqual(names["cost"](rule, names["old"], names["new"]), (0, 0, 1))
        self.assertEqual(names["chosen"], (("key", (0, 0, 0)), ("key", (1,))))
        self.assertIsNone(names["mixing"](template, rule, (0, 0, 0), (1,)))
        self.assertIsNone(names["is_right_for"](template, rule, ["flag"], 1))
        self.assertEqual(names["text"], "for todo\n  part row none\npart end none\n")
        desk = names["desk"]
        desk.redo()
        self.assertEqual([desk.score(), desk.trail()], [(1, 1), [(2, 1), (2, 1), (1, 1)]])


if __name__ == "__main__":
    unittest.main()
