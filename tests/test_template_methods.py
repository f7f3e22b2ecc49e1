"""Point 20: the methods of a template, and equality."""

import copy
import random
import unittest

from statestay.shapes import Shape
from statestay.templates import Template
from expected import listed, rows_around, spread, template_error
from helpers import ODD, clear, exactly, outcome, spoiled
from samples import chain, group, one, part, rich, rich_items

ON = ("flag", "open")


def several():
    """Pairs of items and pieces for the rich shape."""
    return [
        ([], None),
        ([part()], None),
        ([group([], ("word", "g")), part("b", ("word", "w"), [part("a")])], {}),
        ([("if", ON, [part("z"), part("y", None, [part("x")])], [part("z"), group([part("y")])]), part("z")], None),
        ([("for", "todo", [part("row", ("id",), [("for", "step", [part("step", ("up", ("id",)))])])])], None),
        (chain(8), {"p": [part("never")]}),
        ([("piece", "p", [part("a"), ("for", "menu", [])]), ("piece", "p", [])],
         {"p": [group([("slot",)]), part("c")]}),
        rich_items(),
    ]


class Base(unittest.TestCase):
    def setUp(self):
        self.shape = Shape(*rich())

    def template(self, items, pieces=None):
        return Template(self.shape, items, pieces=pieces)


class Methods(Base):
    def compare(self, template, items):
        """The template says what these spread-out items say."""
        every = listed(items)
        parts = [path for path, item in every if item[0] == "part"]
        self.assertEqual(exactly(template.spread()), exactly(items))
        self.assertEqual(exactly(template.paths()), exactly([path for path, item in every]))
        self.assertEqual(exactly(template.parts()), exactly(parts))
        kinds = sorted({item[1] for path, item in every if item[0] == "part"})
        self.assertEqual(exactly(template.kinds()), exactly(kinds))
        for path, item in every:
            self.assertEqual(exactly(template.item_at(path)), exactly(item))
            self.assertEqual(exactly(template.rows_around(path)), exactly(rows_around(items, path)))

    def test_each_at_each_path(self):
        for items, pieces in several():
            template = self.template(items, pieces)
            self.compare(template, spread(items, pieces or {}))
            self.assertTrue(template.shape == self.shape)

    def test_literal(self):
        items, pieces = several()[3]
        template = self.template(items, pieces)
        paths = [(0,), (0, 0, 0), (0, 0, 1), (0, 0, 1, 0, 0), (0, 1, 0), (0, 1, 1), (0, 1, 1, 0, 0), (1,)]
        self.assertEqual(template.paths(), paths)
        self.assertEqual(template.parts(), paths[1:5] + paths[6:])
        self.assertEqual(template.kinds(), ["x", "y", "z"])
        self.assertEqual(template.item_at((0, 1, 1)), group([part("y")]))
        template = self.template(*several()[4])
        self.assertEqual([template.rows_around(path) for path in template.paths()],
                         [(), ("todo",), ("todo",), ("todo", "step")])

    def test_no_item(self):
        for items, pieces in several():
            template = self.template(items, pieces)
            paths = template.paths()
            wrong = [(), (-1,), (0, 0), (0, 0, 0, 0), (0, 1, 0), (0, 2, 0), (0, -1, 0), (0, 0, -1), (100,), (10 ** 20,),
                     (0,) * 17, (0,) * 60, (0,) * 16, (-1, 0, 0)]
            for path in paths:
                wrong += [path + (0,), path + (0, 0), path + (1, 0), path + (2, 0), path + (3, 0), path + (-1, 0),
                          path + (0, -1), path[:-1], path[:-1] + (path[-1] + 1,), path[:-1] + (-1,), path + (0, 99),
                          path[:-1] + (path[-1] - 1 - len(paths),), path[:-1] + (path[-1] + 1000,)]
            for path in wrong:
                if path not in paths:
                    told = ("NoItem", path)
                    self.assertEqual(outcome(template.item_at, path), told)
                    self.assertEqual(outcome(template.rows_around, path), told)
                    self.assertEqual(outcome(template.with_item, path, part()), told)
                    self.assertEqual(outcome(template.with_item, path, 5), told)

    def test_what_is_returned_is_new(self):
        for items, pieces in several():
            template = self.template(items, pieces)
            expected = spread(*copy.deepcopy((items, pieces or {})))
            for step in range(2):
                clear(template.spread())
                template.spread().append(part("more"))
                for returned in (template.paths(), template.parts(), template.kinds()):
                    returned.append("more")
                    returned.clear()
                for path in template.paths():
                    item = template.item_at(path)
                    item[-1].append(part("more"))
                    clear(item)
                self.compare(template, expected)

    def test_kinds_are_told_once_and_ascending(self):
        template = self.template([part("b"), part("a", None, [part("b")]), part("c"), part("a"), part("aa"), part("z")])
        self.assertEqual(template.kinds(), ["a", "aa", "b", "c", "z"])
        self.assertEqual(self.template([group(), group()]).kinds(), [])


class WithItem(Base):
    def put(self, items, path, item):
        """The items with another item at the path."""
        items = list(items)
        if len(path) == 1:
            items[path[0]] = item
        else:
            old = items[path[0]]
            at = len(old) - (2 if old[0] == "if" else 1) + path[1]
            items[path[0]] = old[:at] + (self.put(old[at], path[2:], item),) + old[at + 1:]
        return items

    def told(self, template, path, item):
        """with_item does what the document says, and nothing changes."""
        before = exactly([template.spread(), item])
        expected = self.put(template.spread(), path, item)
        error = template_error(rich(), expected, None)
        told = outcome(template.with_item, path, item)
        self.assertEqual(told, error and ("InvalidTemplate", *error), (path, item))
        if error is None:
            made = template.with_item(path, item)
            self.assertIsInstance(made, Template)
            self.assertEqual(exactly(made.spread()), exactly(expected))
            self.assertTrue(made.shape == template.shape)
            self.assertTrue(made == Template(self.shape, expected))
            if item[-1:] and isinstance(item[-1], list):
                self.assertIsNot(made.item_at(path)[-1], item[-1])
        self.assertEqual(exactly([template.spread(), item]), before)

    def test_at_each_path(self):
        good = [part("new"), group([part("new")]), ("if", ON, [part("new")], [group()]), ("for", "todo", []),
                ("for", "step", [part("new")]), part("new", ("id",)), part("new", ("field", "size")),
                ("if", ("empty", "step"), [], []), chain(3)[0], chain(8)[0], chain(9)[0]]
        wrong = [part("Ab"), part("a", 5), ("slot",), ("piece", "frame", []), ("piece", "p", [part()]),
                 group([("slot",)]), group([("piece", "p", [])]), ("if", None, [], []), ("for", "none", []),
                 group([part()] * 23), group([part()] * 24), group([part()] * 39), group([part()] * 40), group([5])]
        for items, pieces in several():
            template = self.template(items, pieces)
            for path in template.paths():
                for item in good + wrong + ODD:
                    self.told(template, path, item)

    def test_slots_and_piece_items_are_wrong(self):
        items, pieces = several()[6]
        template = self.template(items, pieces)
        for item in (("slot",), ("piece", "p", [])):
            self.assertEqual(outcome(template.with_item, (0, 0, 0), item), ("InvalidTemplate", "form", (0, 0, 0)))
            self.assertEqual(outcome(template.with_item, (1,), group([item])), ("InvalidTemplate", "form", (1, 0, 0)))

    def test_literal(self):
        template = self.template([part("a"), ("if", ON, [part("b")], [part("c"), part("d")])])
        made = template.with_item((1, 1, 0), group([part("e")]))
        self.assertEqual(made.spread(), [part("a"), ("if", ON, [part("b")], [group([part("e")]), part("d")])])
        self.assertEqual(template.spread(), [part("a"), ("if", ON, [part("b")], [part("c"), part("d")])])
        self.assertEqual(template.with_item((1,), part("b")).spread(), [part("a"), part("b")])
        self.assertEqual(template.with_item((1, 0, 0), part("x")).spread(),
                         [part("a"), ("if", ON, [part("x")], [part("c"), part("d")])])

    def test_no_item_ahead_of_what_is_wrong(self):
        template = self.template([part("a")])
        for item in ODD:
            self.assertEqual(outcome(template.with_item, (1,), item), ("NoItem", (1,)))
            self.assertEqual(outcome(template.with_item, (), item), ("NoItem", ()))

    def test_what_is_written_and_what_is_spread_out_have_their_limits(self):
        template = self.template([part("a"), part("b")])
        self.assertIsNone(outcome(template.with_item, (0,), group([part()] * 22)))
        self.assertEqual(outcome(template.with_item, (0,), group([part()] * 23)), ("InvalidTemplate", "many", (1,)))
        self.assertEqual(outcome(template.with_item, (1,), group([part()] * 23)),
                         ("InvalidTemplate", "many", (1, 0, 22)))
        self.assertEqual(outcome(template.with_item, (1,), group([part("Ab")] * 38 + [5])),
                         ("InvalidTemplate", "many", (1, 0, 38)))
        self.assertEqual(outcome(template.with_item, (1,), group([part("Ab")] * 37 + [5])),
                         ("InvalidTemplate", "form", (1, 0, 37)))

    def test_the_item_is_copied(self):
        item = group([part("a", None, [part("b")])])
        template = self.template([part("a")])
        made = template.with_item((0,), item)
        item[2][0][3].append(part("more"))
        self.assertEqual(made.spread(), [group([part("a", None, [part("b")])])])
        clear(item)
        self.assertEqual(made.spread(), [group([part("a", None, [part("b")])])])

    def test_the_new_template_shares_nothing(self):
        template = self.template([group([part("a")]), part("b")])
        made = template.with_item((1,), part("c"))
        clear(made.spread())
        clear(made.item_at((0,)))
        self.assertEqual(template.spread(), [group([part("a")]), part("b")])
        self.assertEqual(made.spread(), [group([part("a")]), part("c")])

    def test_spoiled_items(self):
        dice = random.Random(20)
        templates = [self.template(items, pieces) for items, pieces in several()[1:]]
        for step in range(1500):
            template = dice.choice(templates)
            path = dice.choice(template.paths())
            item = template.item_at(dice.choice(template.paths()))
            for many in range(dice.choice([0, 1, 2])):
                item = spoiled(item, dice)
            self.told(template, path, item)


class Equal(Base):
    def compare(self, left, right, equal):
        self.assertIs(left == right, equal)
        self.assertIs(right == left, equal)
        self.assertIs(left != right, not equal)
        self.assertIs(right != left, not equal)

    def test_with_and_without_pieces(self):
        every = several()
        for at, (items, pieces) in enumerate(every):
            for other, (more, most) in enumerate(every):
                self.compare(self.template(items, pieces), self.template(more, most), at == other)
            self.compare(self.template(items, pieces), self.template(spread(items, pieces or {})), True)
            self.compare(self.template(items, pieces), Template(Shape(*rich()), items, pieces=pieces), True)

    def test_small_differences(self):
        rows = ("for", "todo", [group([], ("id",))])
        base = [part("a", ("word", "w"), [part("b")]), ("if", ON, [part("c")], []), rows]
        for at, item in (
            (0, part("b", ("word", "w"), [part("b")])), (0, part("a", ("word", "v"), [part("b")])),
            (0, part("a", None, [part("b")])), (0, part("a", ("word", "w"))), (0, group([part("b")], ("word", "w"))),
            (0, part("a", ("word", "w"), [part("b"), part("b")])), (1, ("if", ("flag", "dark"), [part("c")], [])),
            (1, ("if", ON, [], [part("c")])), (2, ("for", "menu", [group([], ("id",))])),
            (2, ("for", "todo", [group([])])),
        ):
            self.compare(self.template(base), self.template(base[:at] + [item] + base[at + 1:]), False)
            self.compare(self.template(base), self.template(base).with_item((at,), item), False)
        self.compare(self.template(base), self.template(base[::-1]), False)
        self.compare(self.template(base), self.template(base[:2]), False)

    def test_other_shapes(self):
        items = [part("a"), group([part("b")])]
        for flags, lists in (([], {}), (["open"], rich()[1]), (rich()[0], {"todo": one()})):
            self.compare(Template(Shape(flags, lists), items), self.template(items), False)
        flags, lists = rich()
        self.compare(Template(Shape(tuple(flags[::-1]), lists), items), self.template(items), True)
        self.compare(Template(Shape([], {}), []), Template(Shape([], {}), [], pieces={"p": []}), True)

    def test_other_values(self):
        template = self.template([part("a")])
        for other in ("template", (), [part("a")], (part("a"),), None, 0, True, {}, self.shape):
            self.compare(template, other, False)


if __name__ == "__main__":
    unittest.main()
