"""Drawing (point 21)."""

import copy
import itertools
import random
import unittest

import chance
import expected
import expected_screens
from helpers import clear, exactly, outcome, spoiled, variants
from samples import chain, group, one, part, rich, rich_data, rich_items
from statestay.drawing import Node, draw
from statestay.shapes import Shape, all_data
from statestay.templates import Template


def drawn(spec, items, data):
    """The plain nodes of a drawing."""
    return expected_screens.plain(draw(Template(Shape(*spec), items), data))


def turned(value):
    """The value with the keys of all dicts put in the other order."""
    if isinstance(value, dict):
        return {key: turned(value[key]) for key in reversed(list(value))}
    if isinstance(value, list):
        return [turned(inner) for inner in value]
    return value


def todos(several, flags=()):
    """Data with a list todo, without fields, of these ids."""
    rows = [{"id": number, "fields": {}, "lists": {}} for number in several]
    return {"flags": dict(flags), "lists": {"todo": rows}}


TODO = ([], {"todo": one()})


class Small(unittest.TestCase):
    def test_nothing(self):
        nodes = draw(Template(Shape([], {}), []), {"flags": {}, "lists": {}})
        self.assertEqual(exactly(nodes), exactly([]))

    def test_parts_and_groups(self):
        items = [part("b", ("word", "w"), [part("a"), group([part("c")], ("word", "x"))]), group()]
        nodes = draw(Template(Shape([], {}), items), {"flags": {}, "lists": {}})
        self.assertIs(type(nodes), list)
        self.assertTrue(all(type(node) is Node for top in nodes for node in top.walk()))
        self.assertEqual(exactly(expected_screens.plain(nodes)), exactly([
            ("b", ("word", "w"), ((0,), ()), [
                ("a", None, ((0, 0, 0), ()), []),
                (None, ("word", "x"), ((0, 0, 1), ()), [("c", None, ((0, 0, 1, 0, 0), ()), [])]),
            ]),
            (None, None, ((1,), ()), []),
        ]))

    def test_an_if_makes_no_node(self):
        items = [part("a"), ("if", ("flag", "on"), [part("b"), part("c")], [part("d")]), part("e")]
        for on, found in ((True, [("b", (1, 0, 0)), ("c", (1, 0, 1))]), (False, [("d", (1, 1, 0))])):
            nodes = drawn((["on"], {}), items, {"flags": {"on": on}, "lists": {}})
            self.assertEqual(nodes, [(kind, None, (path, ()), []) for kind, path in
                                     [("a", (0,))] + found + [("e", (2,))]])

    def test_an_if_with_empty_lists(self):
        items = [("if", ("flag", "on"), [], [part("a")]), ("if", ("flag", "on"), [part("b")], []),
                 ("if", ("flag", "on"), [], [])]
        self.assertEqual(drawn((["on"], {}), items, {"flags": {"on": True}, "lists": {}}),
                         [("b", None, ((1, 0, 0), ()), [])])
        self.assertEqual(drawn((["on"], {}), items, {"flags": {"on": False}, "lists": {}}),
                         [("a", None, ((0, 1, 0), ()), [])])

    def test_ifs_in_ifs(self):
        inner = ("if", ("flag", "b"), [part("x")], [part("y")])
        items = [("if", ("flag", "a"), [inner], [inner])]
        for a, b in itertools.product((True, False), repeat=2):
            nodes = drawn((["a", "b"], {}), items, {"flags": {"a": a, "b": b}, "lists": {}})
            path = (0, 0 if a else 1, 0, 0 if b else 1, 0)
            self.assertEqual(nodes, [("x" if b else "y", None, (path, ()), [])])

    def test_a_for_makes_no_node(self):
        items = [part("a"), ("for", "todo", [part("b", ("id",)), part("c")]), part("e")]
        nodes = drawn(TODO, items, todos([5, 0, 1000000]))
        self.assertEqual(exactly(nodes), exactly(
            [("a", None, ((0,), ()), [])]
            + [one for number in (5, 0, 1000000) for one in (
                ("b", ("id", number), ((1, 0, 0), (number,)), []), ("c", None, ((1, 0, 1), (number,)), []))]
            + [("e", None, ((2,), ()), [])]))

    def test_a_for_over_no_rows(self):
        self.assertEqual(drawn(TODO, [("for", "todo", [part("b")])], todos([])), [])
        self.assertEqual(drawn(TODO, [("for", "todo", [])], todos([1, 2])), [])
        self.assertEqual(drawn(TODO, [part("a", None, [("for", "todo", [part("b")])])], todos([])),
                         [("a", None, ((0,), ()), [])])

    def test_pieces_are_spread_out(self):
        pieces = {"p": [part("a"), ("slot",), part("b")]}
        items = [("piece", "p", [("piece", "p", [])]), part("c")]
        nodes = draw(Template(Shape([], {}), items, pieces=pieces), {"flags": {}, "lists": {}})
        self.assertEqual([(node.kind, node.owner) for node in nodes],
                         [(kind, ((at,), ())) for at, kind in enumerate("aabbc")])

    def test_an_inner_list_behind_a_part_and_behind_a_group(self):
        spec = ([], {"todo": one({}, {"step": one()})})
        rows = [{"id": number, "fields": {}, "lists": {"step": [
            {"id": inner, "fields": {}, "lists": {}} for inner in steps]}} for number, steps in ((7, [7, 1]), (1, []))]
        data = {"flags": {}, "lists": {"todo": rows}}
        for holder in (part("h", ("id",), [("for", "step", [part("s", ("id",))])]),
                       group([("for", "step", [part("s", ("id",))])], ("id",))):
            kind = "h" if holder[0] == "part" else None
            self.assertEqual(drawn(spec, [("for", "todo", [part("t"), holder])], data), [
                ("t", None, ((0, 0, 0), (7,)), []),
                (kind, ("id", 7), ((0, 0, 1), (7,)), [
                    ("s", ("id", 7), ((0, 0, 1, 0, 0, 0, 0), (7, 7)), []),
                    ("s", ("id", 1), ((0, 0, 1, 0, 0, 0, 0), (7, 1)), []),
                ]),
                ("t", None, ((0, 0, 0), (1,)), []),
                (kind, ("id", 1), ((0, 0, 1), (1,)), []),
            ])

    def test_what_stands_deep(self):
        nodes = drawn(([], {}), chain(7, [part("a")]), {"flags": {}, "lists": {}})
        for deep in range(8):
            self.assertEqual(nodes[0][2], ((0,) * (2 * deep + 1), ()))
            nodes = nodes[0][3]
        self.assertEqual(nodes, [])


class Keys(unittest.TestCase):
    """The values of keys in a for of an inner list, with the row 4 of todo and the row 9 of step around."""

    SPEC = (["on"], {"todo": one({"mark": ("new", "old")}, {"step": one({"mark": ("red", "blue")})})})
    DATA = {"flags": {"on": True}, "lists": {"todo": [{"id": 4, "fields": {"mark": "old"}, "lists": {"step": [
        {"id": 9, "fields": {"mark": "blue"}, "lists": {}}]}}]}}

    def value(self, key, data=DATA):
        items = [("for", "todo", [group([("for", "step", [part("a", key)])])])]
        nodes = draw(Template(Shape(*self.SPEC), items), data)
        self.assertEqual(nodes[0].below()[0].owner, ((0, 0, 0, 0, 0, 0, 0), (4, 9)))
        return nodes[0].below()[0].key

    def test_values(self):
        for key, value in (
            (None, None),
            (("word", "id"), ("word", "id")),
            (("id",), ("id", 9)),
            (("field", "mark"), ("field", "blue")),
            (("up", ("id",)), ("id", 4)),
            (("up", ("field", "mark")), ("field", "old")),
            (("up", ("word", "w")), ("word", "w")),
            (("up", ("up", ("word", "w"))), ("word", "w")),
            (("both", ("id",), ("field", "mark")), ("both", ("id", 9), ("field", "blue"))),
            (("both", ("field", "mark"), ("id",)), ("both", ("field", "blue"), ("id", 9))),
            (("both", ("up", ("id",)), ("id",)), ("both", ("id", 4), ("id", 9))),
            (("up", ("both", ("id",), ("field", "mark"))), ("both", ("id", 4), ("field", "old"))),
            (("both", ("word", "a"), ("both", ("id",), ("both", ("id",), ("word", "b")))),
             ("both", ("word", "a"), ("both", ("id", 9), ("both", ("id", 9), ("word", "b"))))),
            (("both", ("both", ("both", ("id",), ("word", "b")), ("id",)), ("up", ("both", ("id",), ("id",)))),
             ("both", ("both", ("both", ("id", 9), ("word", "b")), ("id", 9)), ("both", ("id", 4), ("id", 4)))),
            (("both", ("up", ("up", ("word", "c"))), ("field", "mark")),
             ("both", ("word", "c"), ("field", "blue"))),
            (("up", ("both", ("up", ("word", "c")), ("field", "mark"))),
             ("both", ("word", "c"), ("field", "old"))),
            (("up", ("both", ("both", ("id",), ("field", "mark")), ("word", "d"))),
             ("both", ("both", ("id", 4), ("field", "old")), ("word", "d"))),
        ):
            self.assertEqual(exactly(self.value(key)), exactly(value))

    def test_with_equal_ids(self):
        data = copy.deepcopy(self.DATA)
        data["lists"]["todo"][0]["lists"]["step"][0]["id"] = 4
        items = [("for", "todo", [group([("for", "step", [part("a", ("both", ("id",), ("up", ("id",))))])])])]
        node = draw(Template(Shape(*self.SPEC), items), data)[0].below()[0]
        self.assertEqual((node.key, node.owner[1]), (("both", ("id", 4), ("id", 4)), (4, 4)))

    def test_behind_a_part_in_a_for(self):
        items = [("for", "todo", [part("a", None, [group([part("b", ("id",))], ("field", "mark"))])])]
        self.assertEqual(drawn(self.SPEC, items, self.DATA)[0][3], [
            (None, ("field", "old"), ((0, 0, 0, 0, 0), (4,)), [
                ("b", ("id", 4), ((0, 0, 0, 0, 0, 0, 0), (4,)), [])])])

    def test_a_row_for_each_key(self):
        rows = [{"id": number, "fields": {"mark": mark}, "lists": {"step": []}}
                for number, mark in ((4, "old"), (2, "new"), (3, "old"))]
        data = {"flags": {"on": False}, "lists": {"todo": rows}}
        nodes = drawn(self.SPEC, [("for", "todo", [part("a", ("both", ("field", "mark"), ("id",)))])], data)
        self.assertEqual([node[1] for node in nodes], [
            ("both", ("field", "old"), ("id", 4)), ("both", ("field", "new"), ("id", 2)),
            ("both", ("field", "old"), ("id", 3))])


class Tests(unittest.TestCase):
    """Which list of an if is drawn, for all data with few rows."""

    SPEC = (["on"], {"todo": one({"mark": ("new", "old")}, {"step": one({"tone": ("red", "blue")})}),
                     "menu": one()})

    def every(self):
        for data in all_data(Shape(*self.SPEC), 1, ids=1):
            yield data

    def is_drawn(self, test, holds):
        items = [("if", test, [part("yes")], [part("no")])]
        for data in self.every():
            self.assertEqual([node[0] for node in drawn(self.SPEC, items, data)], ["yes" if holds(data) else "no"])

    def is_drawn_in_todo(self, test, holds):
        items = [("for", "todo", [("if", test, [part("yes")], [part("no")])])]
        for data in self.every():
            self.assertEqual([node[0] for node in drawn(self.SPEC, items, data)],
                             ["yes" if holds(data, row) else "no" for row in data["lists"]["todo"]])

    def is_drawn_in_step(self, test, holds):
        steps = ("for", "step", [("if", test, [part("yes")], [part("no")])])
        items = [("for", "todo", [part("row", None, [steps])])]
        for data in self.every():
            below = [node[0] for row in drawn(self.SPEC, items, data) for node in row[3]]
            self.assertEqual(below, ["yes" if holds(data, row, step) else "no" for row in data["lists"]["todo"]
                                     for step in row["lists"]["step"]])

    def test_at_the_top(self):
        self.is_drawn(("flag", "on"), lambda data: data["flags"]["on"])
        self.is_drawn(("not", ("flag", "on")), lambda data: not data["flags"]["on"])
        self.is_drawn(("not", ("not", ("flag", "on"))), lambda data: data["flags"]["on"])
        self.is_drawn(("not", ("not", ("not", ("flag", "on")))), lambda data: not data["flags"]["on"])
        self.is_drawn(("empty", "todo"), lambda data: not data["lists"]["todo"])
        self.is_drawn(("not", ("empty", "menu")), lambda data: data["lists"]["menu"])

    def test_in_a_for(self):
        self.is_drawn_in_todo(("flag", "on"), lambda data, row: data["flags"]["on"])
        self.is_drawn_in_todo(("field", "mark", "new"), lambda data, row: row["fields"]["mark"] == "new")
        self.is_drawn_in_todo(("field", "mark", "old"), lambda data, row: row["fields"]["mark"] == "old")
        self.is_drawn_in_todo(("empty", "step"), lambda data, row: not row["lists"]["step"])
        self.is_drawn_in_todo(("up", ("empty", "menu")), lambda data, row: not data["lists"]["menu"])
        self.is_drawn_in_todo(("up", ("empty", "todo")), lambda data, row: False)
        self.is_drawn_in_todo(("up", ("not", ("flag", "on"))), lambda data, row: not data["flags"]["on"])
        self.is_drawn_in_todo(("not", ("up", ("empty", "menu"))), lambda data, row: data["lists"]["menu"])

    def test_in_a_for_of_an_inner_list(self):
        self.is_drawn_in_step(("flag", "on"), lambda data, row, step: data["flags"]["on"])
        self.is_drawn_in_step(("field", "tone", "red"), lambda data, row, step: step["fields"]["tone"] == "red")
        self.is_drawn_in_step(("up", ("field", "mark", "new")), lambda data, row, step: row["fields"]["mark"] == "new")
        self.is_drawn_in_step(("up", ("empty", "step")), lambda data, row, step: False)
        self.is_drawn_in_step(("up", ("up", ("empty", "menu"))), lambda data, row, step: not data["lists"]["menu"])
        self.is_drawn_in_step(("up", ("not", ("up", ("flag", "on")))), lambda data, row, step: not data["flags"]["on"])
        self.is_drawn_in_step(("not", ("up", ("up", ("empty", "menu")))), lambda data, row, step: data["lists"]["menu"])

    def test_behind_a_part_in_a_for(self):
        items = [("for", "todo", [part("row", None, [("if", ("field", "mark", "new"), [part("yes")], [])])])]
        for data in self.every():
            self.assertEqual([len(node[3]) for node in drawn(self.SPEC, items, data)],
                             [int(row["fields"]["mark"] == "new") for row in data["lists"]["todo"]])


class ManyTemplates(unittest.TestCase):
    """Drawings of templates and data that dice choose, against another way to draw."""

    def test_against_another_way(self):
        dice = random.Random(21)
        forms = set()
        for turn in range(1000):
            spec = chance.specs()[turn % 3]
            items = chance.items(dice, spec)
            template = Template(Shape(*spec), items)
            forms.update(word for word in ("part", "group", "if", "for", "up", "both", "not", "empty", "field", "flag")
                         if repr(word) in repr(items))
            for time in range(3):
                data = chance.data(dice, spec)
                before = copy.deepcopy(data)
                nodes = draw(template, data)
                plain = expected_screens.plain(nodes)
                self.assertEqual(exactly(plain), exactly(expected_screens.drawing(items, data)))
                self.assertEqual(exactly(data), exactly(before))
                owners = [node[2] for node in expected_screens.walked(plain)]
                self.assertEqual(len(set(owners)), len(owners))
                self.assertEqual(expected_screens.plain(draw(template, turned(data))), plain)
                clear(data)
                self.assertEqual(expected_screens.plain(nodes), plain)
        self.assertEqual(len(forms), 10)

    def test_the_rich_template(self):
        items, pieces = rich_items()
        template = Template(Shape(*rich()), items, pieces=pieces)
        dice = random.Random(22)
        for data in [rich_data()] + [chance.data(dice, rich()) for time in range(100)]:
            self.assertEqual(exactly(expected_screens.plain(draw(template, data))),
                             exactly(expected_screens.drawing(template.spread(), data)))


class WhatIsNew(unittest.TestCase):
    def test_two_drawings_share_nothing(self):
        template = Template(Shape(*TODO), [part("a", None, [("for", "todo", [part("b")])])])
        first = draw(template, todos([1, 2]))
        second = draw(template, todos([1, 2]))
        plain = expected_screens.plain(second)
        first[0].below().clear()
        first.clear()
        self.assertEqual(expected_screens.plain(second), plain)
        self.assertEqual(expected_screens.plain(draw(template, todos([1, 2]))), plain)

    def test_the_template_stays(self):
        items = [part("a", None, [("for", "todo", [part("b")])])]
        template = Template(Shape(*TODO), items)
        draw(template, todos([1, 2]))
        self.assertEqual((template.spread(), template.paths()), (items, [(0,), (0, 0, 0), (0, 0, 0, 0, 0)]))


class WrongData(unittest.TestCase):
    def test_one_place_spoiled(self):
        template = Template(Shape(*rich()), [part("a")])
        for wrong in list(variants(rich_data()))[::5]:
            self.assertEqual(outcome(draw, template, wrong), expected.data_error(rich(), wrong))

    def test_several_places_spoiled(self):
        dice = random.Random(23)
        items, pieces = rich_items()
        template = Template(Shape(*rich()), items, pieces=pieces)
        for time in range(1500):
            wrong = rich_data()
            for again in range(dice.randint(1, 3)):
                wrong = spoiled(wrong, dice)
            self.assertEqual(outcome(draw, template, wrong), expected.data_error(rich(), wrong))

    def test_too_many_rows(self):
        template = Template(Shape(*TODO), [("for", "todo", [part("b")])])
        self.assertEqual(len(draw(template, todos(range(300)))), 300)
        self.assertEqual(outcome(draw, template, todos(range(301))), ("LimitExceeded", 300))
        self.assertEqual(outcome(draw, template, todos(list(range(301)) + [0])),
                         ("InvalidData", ("lists", "todo", 301, "id")))

    def test_too_many_rows_where_nothing_goes_through_them(self):
        template = Template(Shape(*TODO), [part("b")])
        self.assertEqual(len(draw(template, todos(range(300)))), 1)
        self.assertEqual(outcome(draw, template, todos(range(301))), ("LimitExceeded", 300))


if __name__ == "__main__":
    unittest.main()
