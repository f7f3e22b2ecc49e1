"""Points 12, 13, 18 and 19: what is spread out."""

import unittest

from statestay.shapes import Shape
from statestay.templates import Template
from expected import listed, spread
from helpers import deep, exactly, outcome
from samples import chain, group, one, part, rich, rich_items

SPEC = (["on"], {"todo": one({"mark": ("new", "old")}, {"step": one()})})
ON = ("flag", "on")
SLOT = ("slot",)


def use(items=(), name="p"):
    return ("piece", name, list(items))


class Base(unittest.TestCase):
    def setUp(self):
        self.shape = Shape(*SPEC)

    def becomes(self, expected, items, pieces):
        template = Template(self.shape, items, pieces=pieces)
        self.assertEqual(exactly(template.spread()), exactly(expected))
        self.assertEqual(template.paths(), [path for path, item in listed(expected)])

    def raises(self, part_word, path, items, pieces=None):
        self.assertEqual(outcome(Template, self.shape, items, pieces=pieces), ("InvalidTemplate", part_word, path))

    def holds(self, items, pieces=None):
        self.assertIsNone(outcome(Template, self.shape, items, pieces=pieces))


class Spread(Base):
    def test_without_pieces(self):
        items = [part("a", None, [group()]), ("if", ON, [part()], [("for", "todo", [part("b", ("id",))])])]
        for pieces in (None, {}, {"p": [part("never")]}):
            self.becomes(items, items, pieces)
        self.becomes([], [], None)

    def test_the_slot_beside_items(self):
        pieces = {"p": [part("label"), SLOT, part("foot")]}
        filled = [part("label"), part("x"), group(), part("foot")]
        self.becomes(filled, [use([part("x"), group()])], pieces)
        self.becomes([part("label"), part("foot")], [use()], pieces)
        self.becomes([part("a")] + filled + [part("b")], [part("a"), use([part("x"), group()]), part("b")], pieces)

    def test_the_slot_inside_of_an_item(self):
        pieces = {"p": [part("box", None, [part("top"), ("if", ON, [], [group([SLOT, part("z")])])])]}
        inside = [part("x"), part("y")]
        expected = [part("box", None, [part("top"), ("if", ON, [], [group(inside + [part("z")])])])]
        self.becomes(expected, [use(inside)], pieces)
        self.becomes([group(expected)], [group([use(inside)])], pieces)

    def test_the_slot_alone(self):
        self.becomes([part("x"), part("y")], [use([part("x"), part("y")])], {"p": [SLOT]})
        self.becomes([], [use()], {"p": [SLOT]})
        self.becomes([], [use([use()])], {"p": [SLOT]})

    def test_no_slot(self):
        self.becomes([part("label")], [use([part("x")])], {"p": [part("label")]})
        self.becomes([], [use([part("x")])], {"p": []})
        self.becomes([part("end")], [use([part("x", 5), ("for", "none", [])]), part("end")], {"p": []})

    def test_used_twice(self):
        pieces = {"p": [part("label"), SLOT]}
        expected = [part("label"), part("x"), part("label"), part("y"), part("label")]
        self.becomes(expected, [use([part("x")]), use([part("y")]), use()], pieces)

    def test_used_within_the_items_of_a_piece_item(self):
        pieces = {"p": [group([SLOT]), part("z")], "q": [part("q"), SLOT, part("r")]}
        expected = [group([part("q"), part("x"), part("r"), part("y")]), part("z")]
        self.becomes(expected, [use([use([part("x")], "q"), part("y")])], pieces)
        expected = [part("q"), group([group([part("x")]), part("z")]), part("z"), part("r")]
        self.becomes(expected, [use([use([use([part("x")])])], "q")], pieces)
        expected = [group([group([part("x")]), part("z")]), part("z")]
        self.becomes(expected, [use([group([part("x")]), part("z")])], pieces)

    def test_in_every_list(self):
        pieces = {"p": [part("s"), SLOT]}
        items = [
            part("a", None, [use([part("x")])]), group([use()]),
            ("if", ON, [use([part("y")])], [use(), use()]), ("for", "todo", [use([part("row", ("id",))])]),
        ]
        self.becomes([
            part("a", None, [part("s"), part("x")]), group([part("s")]),
            ("if", ON, [part("s"), part("y")], [part("s"), part("s")]),
            ("for", "todo", [part("s"), part("row", ("id",))]),
        ], items, pieces)

    def test_rows_around_what_stands_in_a_slot(self):
        pieces = {"all": [("for", "todo", [part("row", ("id",), [SLOT])])], "p": [part("tag", ("field", "mark"))]}
        expected = [("for", "todo", [part("row", ("id",), [part("x", ("id",))])])]
        self.becomes(expected, [use([part("x", ("id",))], "all")], pieces)
        self.raises("key", (0,), [part("x", ("id",))], pieces)
        self.raises("key", (0,), [use()], pieces)
        self.raises("key", (1,), [use([use()], "all"), use()], pieces)
        self.holds([use([use()], "all")], pieces)

    def test_paths(self):
        items, pieces = rich_items()
        template = Template(Shape(*rich()), items, pieces=pieces)
        paths = listed(spread(items, pieces))
        self.assertEqual(len(paths), 24)
        self.assertEqual(template.paths(), [path for path, item in paths])
        pieces = {"p": [part("a"), SLOT]}
        items = [use([part("b", None, [part("c")])]), ("if", ON, [use()], [use()])]
        template = Template(self.shape, items, pieces=pieces)
        self.assertEqual(template.paths(), [(0,), (1,), (1, 0, 0), (2,), (2, 0, 0), (2, 1, 0)])

    def test_the_lists_of_two_uses_are_not_the_same(self):
        template = Template(self.shape, [use(), use()], pieces={"p": [group([part()])]})
        found = template.spread()
        found[0][2].append(part("more"))
        self.assertEqual(found[1], group([part()]))

    def test_an_item_that_stands_in_two_places(self):
        shared = part("a", None, [part("b")])
        template = Template(self.shape, [shared, group([shared])])
        found = template.spread()
        found[0][3].append(part("more"))
        self.assertEqual(found[1], group([part("a", None, [part("b")])]))


class Limits(Base):
    def test_24_and_25_items(self):
        self.holds([part()] * 24)
        self.raises("many", (24,), [part()] * 25)
        pieces = {"p": [part()] * 7 + [SLOT], "q": [part()] * 8}
        self.holds([use([use([use()])]), part(), part(), part()], pieces)
        self.raises("many", (24,), [use([use([use()])]), part(), part(), part(), part()], pieces)
        self.holds([use([], "q")] * 3, pieces)
        self.raises("many", (24,), [use([], "q")] * 3 + [part()], pieces)
        self.raises("many", (24,), [use([], "q")] * 4, pieces)
        self.raises("many", (3, 0, 20), [part()] * 3 + [group([use([], "q")] * 3)], pieces)

    def test_slots_and_piece_items_do_not_count(self):
        self.holds([use([use([use([part()] * 8)])]), use(), use()] + [part()] * 16, {"p": [SLOT]})
        self.raises("many", (24,), [use([use([use([part()] * 8)])]), use(), use()] + [part()] * 17, {"p": [SLOT]})

    def test_what_is_dropped_does_not_count(self):
        self.holds([use([part()] * 10)] + [part()] * 24, {"p": []})

    def test_8_and_9_deep_half_in_a_piece_half_in_the_slot(self):
        for above in range(9):
            pieces = {"p": chain(above, [SLOT])} if above < 8 else {"p": chain(8)}
            if above < 8:
                self.holds([use(chain(min(7, 8 - above)))], pieces)
            if 2 <= above < 8:
                self.raises("depth", (0,) * 17, [use(chain(9 - above))], pieces)
                self.raises("depth", (1,) + (0,) * 16, [part(), use(chain(9 - above))], pieces)
        self.holds([use()], {"p": chain(8)})
        self.raises("depth", (0,) * 17, [group([use()])], {"p": chain(8)})
        self.raises("depth", (0,) * 17, chain(4, [use()]), {"p": chain(5)})
        self.holds(chain(4, [use()]), {"p": chain(4)})

    def test_pieces_within_pieces(self):
        pieces = {"p": chain(2, [SLOT])}
        self.holds(deep(4, lambda items: [use(items)], []), pieces)
        self.raises("depth", (0,) * 17, deep(5, lambda items: [use(items)], []), pieces)
        self.raises("depth", (0,) * 17, deep(4, lambda items: [use(items)], [part()]), pieces)
        self.raises("depth", (0,) * 17, deep(8, lambda items: [use(items)], []), {"p": chain(7, [SLOT])})

    def test_nested_deep_as_written_alone(self):
        self.holds(deep(7, lambda items: [use(items)], [part()]), {"p": [SLOT]})

    def test_two_things_wrong(self):
        wrong = part("Ab", 5)
        self.raises("kind", (23,), [part()] * 23 + [wrong, part()])
        self.raises("many", (24,), [part()] * 24 + [wrong])
        self.raises("many", (24,), [part()] * 24 + [wrong, wrong])
        pieces = {"p": chain(4, [SLOT])}
        self.raises("kind", (0,), [wrong, use(chain(5))], pieces)
        self.raises("depth", (0,) * 17, [use(chain(5)), wrong], pieces)
        self.raises("depth", (0,) * 17, [use(chain(4, [wrong]))], pieces)
        self.raises("kind", (0,) * 15, [use(chain(3, [wrong]))], pieces)
        self.raises("kind", (0,) * 15, [use(chain(3, [part("", None, [part()])]))], pieces)
        self.raises("many", (16,) + (0,) * 16, [part()] * 16 + [use(chain(5))], pieces)
        self.raises("depth", (15,) + (0,) * 16, [part()] * 15 + [use(chain(5))], pieces)
        self.raises("many", (24,), [part()] * 24 + [("for", "none", [])])
        self.raises("list", (23,), [part()] * 23 + [("for", "none", []), part()])

    def test_what_is_written_is_checked_first(self):
        self.raises("form", (25,), [part()] * 25 + [5])
        self.raises("form", (1,), [use(chain(5)), 5], {"p": chain(4, [SLOT])})
        self.raises("form", (1,), [part("Ab", 5), ("piece", "q", [])], {"p": []})
        self.raises("many", (40,), [part()] * 41)

    def test_paths_of_errors_are_those_of_the_spread_out_template(self):
        pieces = {"p": [part(), part(), SLOT, part("Ab")]}
        self.raises("kind", (2,), [use()], pieces)
        self.raises("kind", (3,), [use([part()])], pieces)
        self.raises("key", (2,), [use([part("a", 5)])], pieces)
        self.raises("kind", (0, 0, 2), [group([use()])], pieces)
        self.raises("test", (3,), [use(), ("if", ON, [], [])], {"p": [part(), part(), part(), ("if", None, [], [])]})


if __name__ == "__main__":
    unittest.main()
