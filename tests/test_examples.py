"""The examples of the document, as they stand there."""

import unittest

from statestay.drawing import Node, draw
from statestay.matching import Rule, faults, match
from statestay.moves import done, least_moves, shifts
from statestay.right import is_right
from statestay.screens import Screen
from statestay.shapes import Shape, all_data, check, count_data
from statestay.templates import Template
from statestay.verdicts import losing, places, verdicts
from helpers import outcome


class Examples(unittest.TestCase):
    def test_shape(self):
        inner = {"fields": {}, "inner": {}}
        shape = Shape(["open", "dark"], {"todo": {"fields": {"mark": ("new", "old")}, "inner": {"step": inner}}})
        self.assertEqual(
            [shape.flags, shape.outer(), shape.inner("todo"), shape.parent("step"), shape.fields("todo")],
            [('dark', 'open'), ['todo'], ['step'], 'todo', {'mark': ('new', 'old')}])

    def test_invalid_shape(self):
        told = outcome(Shape, [], {"todo": {"fields": {"mark": ("new", "new")}, "inner": {}}})
        self.assertEqual(told, ("InvalidShape", "fields"))

    def test_invalid_data(self):
        shape = Shape(["on"], {"todo": {"fields": {}, "inner": {}}})
        row = {"id": 5, "fields": {}, "lists": {}}
        told = outcome(check, shape, {"flags": {"on": True}, "lists": {"todo": [row, row]}})
        self.assertEqual(told, ("InvalidData", ('lists', 'todo', 1, 'id')))

    def test_count_data(self):
        shape = Shape(["on"], {"todo": {"fields": {}, "inner": {}}})
        self.assertEqual([count_data(shape, 2), count_data(shape, 3, ids=4)], [10, 82])
        self.assertEqual(2 * (1 + 2 + 2), len(list(all_data(shape, 2, ids=2))))

    def test_spread_out(self):
        shape = Shape([], {})
        pieces = {"field": [("part", "label", None, []), ("slot",)]}
        items = [("piece", "field", [("part", "input", None, [])]), ("piece", "field", [])]
        template = Template(shape, items, pieces=pieces)
        self.assertEqual(template.spread(), [
            ("part", "label", None, []), ("part", "input", None, []), ("part", "label", None, [])])
        self.assertEqual(template.paths(), [(0,), (1,), (2,)])

    def test_template(self):
        shape = Shape([], {"todo": {"fields": {}, "inner": {}}})
        pieces = {"field": [("part", "label", None, []), ("slot",)]}
        rows = ("for", "todo", [("part", "row", ("id",), [])])
        items = [("piece", "field", [rows]), ("piece", "field", [])]
        template = Template(shape, items, pieces=pieces)
        self.assertEqual([template.paths(), template.parts(), template.rows_around((1, 0, 0))],
                         [[(0,), (1,), (1, 0, 0), (2,)], [(0,), (1, 0, 0), (2,)], ('todo',)])

    def test_invalid_template(self):
        shape = Shape([], {"todo": {"fields": {}, "inner": {}}})
        told = outcome(Template, shape, [("for", "todo", [("part", "row", ("up", ("id",)), [])])])
        self.assertEqual(told, ("InvalidTemplate", 'key', (0, 0, 0)))

    def test_draw(self):
        shape = Shape(["on"], {"todo": {"fields": {}, "inner": {}}})
        first = [("part", "note", None, [])]
        items = [("if", ("flag", "on"), first, []), ("for", "todo", [("part", "row", ("id",), [])])]
        rows = [{"id": 5, "fields": {}, "lists": {}}, {"id": 3, "fields": {}, "lists": {}}]
        nodes = draw(Template(shape, items), {"flags": {"on": True}, "lists": {"todo": rows}})
        self.assertEqual(
            [[nodes[0].kind, nodes[0].key, nodes[0].owner], [nodes[2].kind, nodes[2].key, nodes[2].owner]],
            [['note', None, ((0, 0, 0), ())], ['row', ('id', 3), ((1, 0, 0), (3,))]])
        self.assertEqual([(node.kind, node.key, node.owner, node.below()) for node in nodes], [
            ("note", None, ((0, 0, 0), ()), []), ("row", ("id", 5), ((1, 0, 0), (5,)), []),
            ("row", ("id", 3), ((1, 0, 0), (3,)), [])])

    def test_slots(self):
        nodes = [Node("a", ("id", 1), ((0,), ())), Node("b", None, ((1,), ())), Node("a", ("id", 1), ((2,), ()))]
        self.assertEqual([Rule()(nodes), Rule(Rule.PLAIN)(nodes)], [
            [('a', ('id', 1), 0), ('b', None, 1), ('a', ('id', 1), 1)],
            [('a', ('id', 1), 0), ('b', None, 0), ('a', ('id', 1), 1)]])

    def test_match_and_faults(self):
        old = [Node("row", None, ((0, 0, 0), (5,))), Node("row", None, ((0, 0, 0), (3,)))]
        new = [Node("row", None, ((0, 0, 0), (3,)))]
        self.assertEqual([match(Rule(), old, new), faults(Rule(), old, new)], [
            [(((0, 0, 0), (5,)), ((0, 0, 0), (3,)))],
            [('lost', ((0, 0, 0), (3,))), ('mixed', ((0, 0, 0), (5,)), ((0, 0, 0), (3,)))]])

    def test_faults_of_two_drawings(self):
        shape = Shape(["on"], {"todo": {"fields": {}, "inner": {}}})
        items = [("if", ("flag", "on"), [("part", "note", None, [])], []),
                 ("for", "todo", [("part", "row", None, [])])]
        template = Template(shape, items)
        old, new = [draw(template, {"flags": {"on": False}, "lists": {"todo": [
            {"id": number, "fields": {}, "lists": {}} for number in several]}}) for several in ((5, 3), (3,))]
        self.assertEqual(faults(Rule("all"), old, new), [
            ("lost", ((1, 0, 0), (3,))), ("mixed", ((1, 0, 0), (5,)), ((1, 0, 0), (3,)))])

    def test_screen(self):
        shape = Shape([], {"todo": {"fields": {}, "inner": {}}})
        one = {"id": 5, "fields": {}, "lists": {}}
        two = {"id": 3, "fields": {}, "lists": {}}
        template = Template(shape, [("for", "todo", [("part", "row", None, [])])])
        screen = Screen(template, Rule(), {"flags": {}, "lists": {"todo": [one, two]}})
        screen[((0, 0, 0), (5,))] = "milk"
        screen.put_focus(((0, 0, 0), (3,)))
        screen.show({"flags": {}, "lists": {"todo": [two]}})
        self.assertEqual([screen.states(), screen.focus, screen.lost(), screen.mixed()], [
            {((0, 0, 0), (3,)): 'milk'}, None, [((0, 0, 0), (3,))], [(((0, 0, 0), (5,)), ((0, 0, 0), (3,)))]])

    def test_shifts(self):
        several = [("remove", 0), ("move", 2, 0), ("insert", 2, "e")]
        self.assertEqual([done(["a", "b", "c", "d"], several), least_moves(["a", "b", "c", "d"], ["d", "b", "e", "c"])],
                         [['d', 'b', 'e', 'c'], 1])
        found = shifts(["a", "b", "c", "d"], ["d", "b", "e", "c"])
        self.assertEqual(sorted([shift[0] for shift in found]), ["insert", "move", "remove"])
        self.assertEqual(done(["a", "b", "c", "d"], found), ["d", "b", "e", "c"])

    def rows_and_an_end(self):
        shape = Shape(["on"], {"todo": {"fields": {}, "inner": {}}})
        items = [("for", "todo", [("part", "row", None, [])]), ("part", "end", None, [])]
        return Template(shape, items)

    def test_is_right(self):
        template = self.rows_and_an_end()
        keyed = template.with_item((0, 0, 0), ("part", "row", ("id",), []))
        self.assertEqual([is_right(keyed, Rule("plain")), is_right(keyed, Rule("all")) is None,
                          is_right(template, Rule("plain")) is None], [None, False, False])

    def test_verdicts(self):
        template = self.rows_and_an_end()
        told = verdicts(template, Rule())
        self.assertEqual([told[(0, 0, 0)], told[(1,)], places(template, Rule(), (1,), 3)],
                         [(True, [(0, 0, 0)]), (True, []), [0, 1, 2, 3]])

    def test_no_part(self):
        self.assertEqual(outcome(losing, self.rows_and_an_end(), Rule(), (0,)), ("NoItem", (0,)))


if __name__ == "__main__":
    unittest.main()
