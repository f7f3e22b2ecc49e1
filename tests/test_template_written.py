"""Points 11, 18 and 19: what is written."""

import copy
import itertools
import random
import unittest

from statestay.shapes import Shape
from statestay.templates import Template
from expected import spread, template_error
from helpers import ODD, clear, deep, exactly, outcome, spoiled, variants
from samples import chain, group, one, part, rich, rich_items

SPEC = (["on"], {"todo": one({"mark": ("new", "old")}, {"step": one()})})
ON = ("flag", "on")


class Base(unittest.TestCase):
    def setUp(self):
        self.shape = Shape(*SPEC)

    def raises(self, part_word, path, items, pieces=None):
        self.assertEqual(outcome(Template, self.shape, items, pieces=pieces), ("InvalidTemplate", part_word, path))

    def holds(self, items, pieces=None):
        self.assertIsNone(outcome(Template, self.shape, items, pieces=pieces))


class Form(Base):
    def test_every_form(self):
        self.holds([])
        self.holds([part(), group(), ("if", ON, [], []), ("for", "todo", [])])
        self.holds([("piece", "p", []), ("piece", "p", [part()])], {"p": [("slot",), part()]})

    def test_pieces(self):
        four = {name: [] for name in ("a", "b", "c", "d")}
        for pieces in ([], (), "p", 0, False, True, four, {"P": []}, {"": []}, {None: []}, {1: []}, {("p",): []},
                       {"p": None}, {"p": ()}, {"p": {}}, {"p": part()}, {"abcdefghi": []}, {"p": [], "q": None},
                       [("p", [])], {True: []}):
            self.raises("form", ("pieces",), [], pieces)
            self.raises("form", ("pieces",), None, pieces)
            self.raises("form", ("pieces",), [5], pieces)
        for pieces in (None, {}, {"p": []}, {"a": [], "b": [], "c": []}):
            self.holds([part()], pieces)

    def test_items(self):
        for items in (None, (), "", {}, 0, True, part(), (part(),), {"a": part()}):
            self.raises("form", (), items)
            self.raises("form", (), items, {"p": [5]})

    def test_items_that_are_no_items(self):
        for item in (None, True, 0, "part", "slot", [], (), {}, ["part", "a", None, []], ("part",),
                     ("Part", "a", None, []), ("part", "a", None), ("part", "a", []),
                     ("part", "a", None, [], []), ("part", "a", None, ()),
                     ("part", "a", None, None), ("part", "a", None, {}), ("group", None), ("group", []),
                     ("group", None, ()), ("group", None, None), ("group", "a", None, []), ("if", ON, []),
                     ("if", ON, [], ()), ("if", ON, (), []), ("if", ON, None, []), ("if", ON, [], None),
                     ("if", ON, [], [], []), ("if", [], []), ("for", "todo"), ("for", "todo", ()), ("for", []),
                     ("for", "todo", [], []), ("for", "todo", None), ("piece", "p"), ("piece", "p", ()), ("piece", []),
                     ("piece", "p", None), ("piece", "p", [], []), ("slot", []), ("slot", None), ([],), ({},),
                     (None, None, []), (("part",), "a", None, []), (["part"], "a", None, []), ("",), ("slots",)):
            self.raises("form", (0,), [item])
            self.raises("form", (1,), [part(), item, part()])
            self.raises("form", (0, 0, 1), [part("a", None, [part(), item])])
            self.raises("form", (0, 0, 0), [group([item])])
            self.raises("form", (0, 0, 0), [("if", ON, [item], [])])
            self.raises("form", (0, 1, 0), [("if", ON, [], [item])])
            self.raises("form", (0, 0, 0), [("for", "todo", [item])])
            self.raises("form", (0, 0, 0), [("piece", "p", [item])], {"p": []})
            self.raises("form", ("pieces", "p", 0), [], {"p": [item]})
            self.raises("form", ("pieces", "p", 1, 0, 0), [], {"p": [part(), group([item])]})
            self.raises("form", ("pieces", "p", 0, 1, 0), [], {"p": [("if", 5, [], [item])]})

    def test_names_of_pieces(self):
        for name in ("q", "", None, True, 0, [], ["p"], {}, ("p",), {"p": 1}, "P"):
            self.raises("form", (0,), [("piece", name, [])], {"p": []})
            self.raises("form", (0,), [("piece", name, [])], {})
            self.raises("form", (0,), [("piece", name, [])])
        self.raises("form", (0,), [("piece", "p", [])])
        self.raises("form", (0, 0, 1), [("piece", "p", [("piece", "p", []), ("piece", "q", [])])], {"p": []})

    def test_no_piece_in_a_piece(self):
        use = ("piece", "p", [])
        for pieces, path in (({"p": [use]}, ("p", 0)), ({"p": [group([use])]}, ("p", 0, 0, 0)),
                             ({"p": [], "q": [use]}, ("q", 0)), ({"a": [use], "p": []}, ("a", 0)),
                             ({"p": [("if", ON, [], [part(), use])]}, ("p", 0, 1, 1))):
            self.raises("form", ("pieces",) + path, [], pieces)

    def test_slots(self):
        slot = ("slot",)
        self.raises("form", (0,), [slot])
        self.raises("form", (0, 0, 0), [group([slot])])
        self.raises("form", (0, 0, 0), [("piece", "p", [slot])], {"p": [slot]})
        self.raises("form", (0,), [slot], {"p": [slot]})
        self.raises("form", ("pieces", "p", 1), [], {"p": [slot, slot]})
        self.raises("form", ("pieces", "p", 1), [], {"p": [group([slot]), slot]})
        self.raises("form", ("pieces", "p", 1, 0, 0), [], {"p": [slot, group([slot])]})
        self.raises("form", ("pieces", "p", 0, 1, 0), [], {"p": [("if", ON, [slot], [slot])]})
        self.raises("form", ("pieces", "q", 1), [], {"p": [slot], "q": [slot, slot]})
        self.holds([], {"p": [slot], "q": [group([slot])], "r": [("if", ON, [], [slot])]})

    def test_the_order_of_pieces_and_items(self):
        self.raises("form", ("pieces", "a", 1), [5], {"b": [5], "a": [part(), 5]})
        self.raises("form", ("pieces", "b", 0), [5], {"b": [5], "a": [part()]})
        self.raises("form", (0,), [5], {"b": [part()], "a": [part()]})
        self.raises("form", (0, 0, 0), [group([5]), 5])
        self.raises("form", (0, 0, 0), [("if", ON, [5], [5])])
        self.raises("form", (0, 0, 0, 0, 0), [("if", ON, [group([5]), 5], [5])])
        self.raises("form", (1,), [group([part()]), 5])

    def test_what_is_written_is_checked_ahead_of_what_is_spread_out(self):
        wrong = part("Ab", 5)
        self.raises("form", (1,), [wrong, 5])
        self.raises("form", (0, 0, 0), [part("Ab", 5, [5])])
        self.raises("form", (0, 1, 0), [("if", None, [wrong], [5])])
        self.raises("kind", (0,), [wrong, part()])

    def test_what_a_piece_that_is_not_used_may_hold(self):
        for odd in ODD:
            inside = [part(odd, odd, [("if", odd, [("for", odd, [])], [group([], odd)])])]
            self.holds([part()], {"p": inside})
            self.holds([("piece", "q", inside)], {"p": inside, "q": [part()]})
            told = outcome(Template, self.shape, [("piece", "p", [])], pieces={"p": inside})
            self.assertEqual(told[0], "InvalidTemplate")


class Limits(Base):
    def test_40_and_41_items(self):
        # Items of a piece that is never used count as written, too.
        self.holds([part()] * 20, {"p": [part()] * 20})
        self.raises("many", (20,), [part()] * 21, {"p": [part()] * 20})
        self.holds([], {"p": [part()] * 40})
        self.raises("many", ("pieces", "p", 40), [], {"p": [part()] * 41})
        self.raises("many", (0,), [part()], {"p": [part()] * 40})
        self.raises("many", ("pieces", "q", 0), [], {"q": [part()], "p": [part()] * 40})
        pieces = {"b": [part()] * 4 + [group([part()] * 9)], "a": [part()] * 32}
        self.raises("many", ("pieces", "b", 4, 0, 3), [], pieces)
        self.raises("many", (40,), [part()] * 41)
        self.raises("many", (24,), [part()] * 25)

    def test_slots_and_piece_items_count(self):
        pieces = {"p": [("slot",)] + [part()] * 19}
        uses = [("piece", "q", []) for step in range(20)]
        self.holds(uses, {"p": pieces["p"], "q": []})
        self.raises("many", (20,), uses + [("piece", "q", [])], {"p": pieces["p"], "q": []})
        nested = [("piece", "q", [("piece", "q", []), ("piece", "q", [])])] * 7
        self.raises("many", (6, 0, 1), nested, {"p": pieces["p"], "q": []})

    def test_the_items_of_a_piece_count_once(self):
        self.holds([("piece", "p", []), ("piece", "p", [])], {"p": [part()] * 12, "q": [part()] * 26})
        self.raises("many", (1,), [("piece", "p", []), ("piece", "p", [])], {"p": [part()] * 12, "q": [part()] * 27})

    def test_8_and_9_deep(self):
        self.holds(chain(8))
        self.raises("depth", (0,) * 17, chain(9))
        self.holds([], {"p": chain(8)})
        self.raises("depth", ("pieces", "p") + (0,) * 17, [], {"p": chain(9)})
        self.holds([("piece", "p", chain(7))], {"p": []})
        self.raises("depth", (0,) * 17, [("piece", "p", chain(8))], {"p": []})
        self.holds([], {"p": chain(7, [("slot",)])})
        self.raises("depth", ("pieces", "p") + (0,) * 17, [], {"p": chain(8, [("slot",)])})
        self.holds(self.ifs([part()]))
        self.raises("depth", (0,) + (1, 0) * 7 + (0, 0), self.ifs([group([part()])]))

    def ifs(self, items):
        """Items that stand in the second lists of seven ifs."""
        return deep(7, lambda inner: [("if", ON, [], inner)], items)

    def test_piece_items_nested(self):
        def uses(many):
            return deep(many, lambda items: [("piece", "p", items)], [])

        self.holds(uses(8), {"p": [("slot",)]})
        self.raises("depth", (0,) * 17, uses(9), {"p": [("slot",)]})

    def test_nested_far_too_deep(self):
        self.raises("depth", (0,) * 17, chain(29))
        self.raises("depth", (0, 0, 0) + (0, 0) * 7, [group(chain(20))])

    def test_many_ahead_of_depth_and_form(self):
        self.raises("many", (40,), [part()] * 40 + [5])
        self.raises("form", (39,), [part()] * 39 + [5])
        self.raises("many", (33,) + (0,) * 14, [part()] * 33 + chain(9))
        self.raises("depth", (31,) + (0,) * 16, [part()] * 31 + chain(9))
        self.raises("many", (32,) + (0,) * 16, [part()] * 32 + chain(9))
        self.raises("depth", (0,) * 17, chain(8, [5]))
        self.raises("form", (0,) * 15, chain(7, [5]))
        self.raises("depth", (0,) * 17, chain(9) + [5])
        self.raises("form", (0,), [5] + chain(9))
        self.raises("form", (0,), [5] + [part()] * 50)
        self.raises("many", (40,), [part()] * 40 + chain(9))


class AgainstTheDocument(unittest.TestCase):
    def told(self, spec, items, pieces):
        """What Template raises is what the document says; the arguments stay."""
        before = exactly([items, pieces])
        expected = template_error(spec, items, pieces)
        told = outcome(Template, self.shape, items, pieces=pieces)
        self.assertEqual(told, expected and ("InvalidTemplate", *expected), before)
        self.assertEqual(exactly([items, pieces]), before)
        if expected is None:
            template = Template(self.shape, items, pieces=pieces)
            self.assertEqual(exactly(template.spread()), exactly(spread(items, pieces or {})))

    def small(self):
        items = [("piece", "p", [("for", "todo", [part("row", ("id",))])]), ("if", ("flag", "open"), [], [part("end")])]
        return items, {"p": [part("head", ("word", "w")), group([("slot",)])]}

    def test_spoiled_in_one_place(self):
        self.shape = Shape(*rich())
        for items, pieces in (self.small(), rich_items()):
            for other in variants(items):
                self.told(rich(), other, pieces)
            for other in variants(pieces):
                self.told(rich(), items, other)

    def test_spoiled_in_several_places(self):
        self.shape = Shape(*rich())
        dice = random.Random(19)
        for step in range(5000):
            items, pieces = dice.choice([self.small, rich_items])()
            for many in range(dice.choice([2, 2, 3])):
                if dice.random() < 0.3:
                    pieces = spoiled(pieces, dice)
                else:
                    items = spoiled(items, dice)
            self.told(rich(), items, pieces)

    def test_odd_arguments(self):
        self.shape = Shape(*rich())
        for odd, other in itertools.product(ODD, ODD + [[part()]]):
            self.told(rich(), odd, other)
            self.told(rich(), other, odd)
            self.told(rich(), [odd, part()], {"p": [other]})
            self.told(rich(), [("piece", "p", [part(other)]), ("piece", odd, [])], {"p": [("slot",), group([], other)]})

    def test_arguments_cleared_after_the_call(self):
        shape = Shape(*rich())
        items, pieces = rich_items()
        template = Template(shape, items, pieces=pieces)
        expected = copy.deepcopy(spread(items, pieces))
        items.append(part("more"))
        items[1][2].append(part("more"))
        pieces["frame"].append(part("more"))
        pieces["frame"][1][2].append(part("more"))
        self.assertEqual(template.spread(), expected)
        clear(items)
        clear(pieces)
        self.assertEqual(template.spread(), expected)


if __name__ == "__main__":
    unittest.main()
