"""Right templates, verdicts and data that show them (points 40 to 43)."""

import copy
import random
import time
import unittest

import dice_templates
import expected
from expected_verdicts import (addresses, fault_paths, few_rows, larger_data, part_paths, seen, small_data, wrong_paths)
from helpers import clear, exactly, outcome
from samples import group, one, part, rich, rich_items
from statestay.drawing import draw
from statestay.matching import Rule, faults
from statestay.right import is_right
from statestay.shapes import Shape, check
from statestay.templates import Template
from statestay.verdicts import losing, mixing, verdicts

PLACES = ("all", "plain")
SPECS = dice_templates.specs()
SMALL = [small_data(spec) for spec in SPECS]


class Many(unittest.TestCase):
    """Templates that dice choose against drawings of all small data and some larger ones."""

    def compare(self, spec, items, place, several):
        template = Template(Shape(*spec), items)
        rule = Rule(place)
        told = verdicts(template, rule)
        paths = part_paths(items)
        self.assertEqual(list(told), template.parts())
        lost, mixed, indexes = seen(items, place, several)
        for path in paths:
            self.assertIs(type(told[path]), tuple)
            self.assertIs(type(told[path][0]), bool)
            self.assertEqual(told[path][1], sorted(set(told[path][1])))
            # What was seen is told, and what is told can be shown.
            self.assertTrue(told[path][0] or path not in lost, (items, place, path))
            self.show(template, rule, losing(template, rule, path), told[path][0], ("lost", path))
            for other in paths:
                self.assertTrue(other in told[path][1] or (path, other) not in mixed, (items, place, path, other))
                pair = mixing(template, rule, path, other)
                self.show(template, rule, pair, other in told[path][1], ("mixed", path, other))
                self.assertEqual(other in told[path][1], path in told[other][1])
        self.compare_right(template, rule, told)
        return told

    def show(self, template, rule, pair, wanted, fault):
        self.assertEqual(pair is not None, wanted)
        if wanted:
            self.assertEqual((type(pair), len(pair)), (tuple, 2))
            self.assertIn(fault, fault_paths(template.spread(), rule.place, pair))
            old, new = draw(template, pair[0]), draw(template, pair[1])
            told = {one[:1] + tuple(owner[0] for owner in one[1:]) for one in faults(rule, old, new)}
            self.assertIn(fault, told)

    def compare_right(self, template, rule, told):
        pair = is_right(template, rule)
        self.assertEqual(pair is None, all(verdict == (False, []) for verdict in told.values()))
        if pair is not None:
            self.assertEqual((type(pair), len(pair)), (tuple, 2))
            for data in pair:
                check(template.shape, data)
                self.assertTrue(few_rows(data["lists"]))
            self.assertNotEqual(faults(rule, *[draw(template, data) for data in pair]), [])
            self.assertTrue(fault_paths(template.spread(), rule.place, pair))

    def test_templates_that_dice_choose(self):
        dice = random.Random(42)
        for turn in range(240):
            number = turn % len(SPECS)
            spec = SPECS[number]
            items = dice_templates.items(dice, spec)
            several = SMALL[number] + larger_data(dice, spec, 30)
            place = PLACES[turn // len(SPECS) % 2]
            self.compare(spec, items, place, dice.sample(several, min(len(several), 200)))

    def test_against_all_small_data(self):
        dice = random.Random(43)
        for turn in range(40):
            number = turn % len(SPECS)
            self.compare(SPECS[number], dice_templates.items(dice, SPECS[number]), dice.choice(PLACES), SMALL[number])

    def test_full_keys_are_right(self):
        dice = random.Random(50)
        for turn in range(150):
            number = turn % len(SPECS)
            items = dice_templates.with_full_keys(dice_templates.items(dice, SPECS[number]))
            template = Template(Shape(*SPECS[number]), items)
            for place in PLACES:
                self.assertIsNone(is_right(template, Rule(place)))
                self.assertEqual(verdicts(template, Rule(place)), {path: (False, []) for path in template.parts()})
            several = dice.sample(SMALL[number], min(len(SMALL[number]), 40)) + larger_data(dice, SPECS[number], 10)
            self.assertEqual(seen(items, "all", several)[:2], (set(), set()))

    def test_one_key_less(self):
        dice = random.Random(51)
        for turn in range(60):
            number = turn % len(SPECS)
            items = dice_templates.with_full_keys(dice_templates.items(dice, SPECS[number]))
            template = Template(Shape(*SPECS[number]), items)
            nodes = [path for path in template.paths() if template.item_at(path)[0] in ("part", "group")]
            if not nodes:
                continue
            path = dice.choice(nodes)
            item = template.item_at(path)
            bare = template.with_item(path, item[:-2] + (None,) + item[-1:])
            several = SMALL[number] + larger_data(dice, SPECS[number], 10)
            for place in PLACES:
                self.compare(SPECS[number], bare.spread(), place, dice.sample(several, min(len(several), 150)))


def told_of(spec, items, place="all"):
    return verdicts(Template(Shape(*spec), items), Rule(place))


def meet(spec, items, first, second, place="all"):
    """Whether two parts can be mixed, by verdicts and by mixing."""
    template = Template(Shape(*spec), items)
    told = verdicts(template, Rule(place))
    shown = mixing(template, Rule(place), first, second)
    if (shown is not None) != (second in told[first][1]):
        raise AssertionError("verdicts and mixing differ")
    return second in told[first][1]


class ByHand(unittest.TestCase):
    plain = (["on"], {"todo": one()})
    two = (["on"], {"todo": one(), "menu": one()})
    marked = (["on"], {"todo": one({"mark": ("new", "old")})})
    nested = (["on"], {"todo": one({}, {"step": one()})})

    def test_no_parts(self):
        self.assertEqual(told_of(([], {}), []), {})
        self.assertEqual(told_of(self.plain, [group([("for", "todo", [group()])])]), {})
        self.assertIsNone(is_right(Template(Shape([], {}), []), Rule()))

    def test_parts_that_are_always_there(self):
        for place in PLACES:
            told = told_of(([], {}), [part("a"), part("a", ("word", "w")), group([part("a")])], place)
            self.assertEqual(told, {(0,): (False, []), (1,): (False, []), (2, 0, 0): (False, [])})

    def test_the_two_lists_of_an_if(self):
        items = [("if", ("flag", "on"), [part("a")], [part("a")])]
        self.assertEqual(told_of(self.plain, items), {(0, 0, 0): (False, [(0, 1, 0)]), (0, 1, 0): (False, [(0, 0, 0)])})
        items = [("if", ("flag", "on"), [part("a")], [part("b")])]
        self.assertEqual(told_of(self.plain, items), {(0, 0, 0): (False, []), (0, 1, 0): (False, [])})

    def test_one_flag_asked_twice(self):
        # The two parts can be drawn together alone, so they never have one place.
        items = [("if", ("flag", "on"), [part("a")], []), ("if", ("not", ("flag", "on")), [], [part("a")])]
        self.assertFalse(meet(self.plain, items, (0, 0, 0), (1, 1, 0)))
        items = [("if", ("flag", "on"), [part("a")], []), ("if", ("flag", "on"), [], [part("a")])]
        self.assertTrue(meet(self.plain, items, (0, 0, 0), (1, 1, 0)))
        # With the flag neither of these is drawn behind one part alone.
        items = [("if", ("flag", "on"), [part("b")], []), ("if", ("flag", "on"), [], [part("b")]), part("a")]
        self.assertEqual(told_of(self.plain, items)[(2,)], (False, []))

    def test_one_empty_list_asked_twice(self):
        items = [("if", ("empty", "todo"), [part("b")], []), ("if", ("empty", "todo"), [], [part("b")]), part("a")]
        self.assertEqual(told_of(self.plain, items)[(2,)], (False, []))
        items = [("if", ("empty", "todo"), [part("b")], []), ("for", "todo", [part("b", ("id",))]), part("a")]
        template = Template(Shape(*self.plain), items)
        self.assertEqual(verdicts(template, Rule())[(2,)], (True, []))
        self.assertEqual(verdicts(template, Rule("plain"))[(2,)], (True, []))
        # There is a row exactly if the list is not empty: the part is never the first one.
        self.assertIsNone(is_right(Template(Shape(*self.plain), [
            ("if", ("empty", "todo"), [part("b", ("word", "x"))], [group(), ("for", "todo", [part("b", ("id",))])]),
        ]), Rule("plain")))

    def test_a_list_behind_a_flag_is_empty_where_it_is_asked_further_in(self):
        rows = [("if", ("flag", "on"), [("for", "todo", [part("b", ("id",))])], [])]
        for items, at in ((rows, (1,)), ([("if", ("not", ("flag", "on")), [], rows)], (1,)),
                          ([("if", ("flag", "on"), [], [part("b")]), ("if", ("flag", "on"), rows, [])], (2,))):
            inside = [("if", ("empty", "todo"), [part("a")], [part("c")])]
            told = told_of(self.plain, items + [group(inside)])
            many = len(items) - 1
            # With no row nothing stands ahead, or the one part if the flag is off.
            self.assertEqual(told[at + (0, 0, 0, 0)], (many == 1, []))
            self.assertEqual(told[at + (0, 0, 1, 0)], (True, []))

    def test_one_field_asked_twice(self):
        inside = [("if", ("field", "mark", "new"), [part("b", ("id",))], []),
                  ("if", ("field", "mark", "old"), [part("b", ("id",))], []), part("a", ("id",))]
        told = told_of(self.marked, [("for", "todo", inside)])
        self.assertEqual(told[(0, 0, 2)], (False, []))
        self.assertEqual(told[(0, 0, 0, 0, 0)], (False, [(0, 0, 1, 0, 0)]))

    def test_what_is_in_a_for_is_drawn_only_with_a_row(self):
        items = [("if", ("empty", "todo"), [("for", "todo", [part("a")])], []), part("b")]
        self.assertEqual(told_of(self.plain, items), {(0, 0, 0, 0, 0): (False, []), (1,): (False, [])})
        items = [group([("if", ("empty", "todo"), [part("a")], [])]), ("for", "todo", [part("a", ("id",))])]
        for place in PLACES:
            self.assertIsNone(is_right(Template(Shape(*self.plain), items), Rule(place)))

    def test_ids_of_one_list_are_different(self):
        items = [("for", "todo", [part("a", ("id",))])]
        for place in PLACES:
            self.assertEqual(told_of(self.plain, items, place), {(0, 0, 0): (False, [])})

    def test_equal_ids_in_two_lists(self):
        items = [("for", "todo", [part("a", ("id",))]), ("for", "menu", [part("a", ("id",))])]
        told = told_of(self.two, items)
        self.assertEqual(told, {(0, 0, 0): (False, [(1, 0, 0)]), (1, 0, 0): (True, [(0, 0, 0)])})
        items[1] = ("for", "menu", [part("b", ("id",))])
        self.assertEqual(told_of(self.two, items), {(0, 0, 0): (False, []), (1, 0, 0): (False, [])})

    def test_equal_ids_in_inner_lists_of_different_rows(self):
        # Without a key of the outer row its place tells where a step stands.
        items = [("for", "todo", [part("a", ("id",), [("for", "step", [part("b", ("id",))])])])]
        self.assertEqual(list(told_of(self.nested, items).values()), [(False, [])] * 2)
        items = [("for", "todo", [part("a", ("word", "w"), [("for", "step", [part("b", ("id",))])])])]
        self.assertEqual(told_of(self.nested, items)[(0, 0, 0, 0, 0, 0, 0)], (True, [(0, 0, 0, 0, 0, 0, 0)]))

    def test_ids_that_a_part_has_not_in_its_key_stay_different(self):
        # A step is the first one with its key only if the row around has another id.
        items = [("for", "todo", [group([part("b", ("id",)), ("for", "step", [part("b", ("id",))])])])]
        template = Template(Shape(*self.nested), items)
        at = (0, 0, 0, 0, 1, 0, 0)
        for place in PLACES:
            pair = mixing(template, Rule(place), at, at)
            self.assertIn(("mixed", at, at), fault_paths(items, place, pair))
        self.assertEqual(verdicts(template, Rule())[at], (True, [(0, 0, 0, 0, 0), at]))

    def test_up_speaks_of_the_row_around(self):
        items = [("for", "todo", [group([("for", "step", [part("b", ("up", ("id",)))])], ("id",))])]
        self.assertEqual(told_of(self.nested, items)[(0, 0, 0, 0, 0, 0, 0)], (True, [(0, 0, 0, 0, 0, 0, 0)]))
        items = [("for", "todo", [group([("for", "step", [part("b", ("id",))])], ("id",))])]
        self.assertEqual(told_of(self.nested, items), {(0, 0, 0, 0, 0, 0, 0): (False, [])})
        items = [("for", "todo", [part("a", ("id",), [part("b", ("id",)), ("for", "step", [
            part("b", ("up", ("id",))), part("b", ("id",))])])])]
        told = told_of(self.nested, items)
        # The part of the row itself comes first, so it is always the first with this key.
        self.assertEqual(told[(0, 0, 0, 0, 0)][0], False)
        self.assertEqual(told[(0, 0, 0, 0, 1, 0, 0)][0], True)

    def test_words_and_fields(self):
        items = [part("a", ("word", "new")), ("for", "todo", [part("a", ("field", "mark"))])]
        told = told_of(self.marked, items)
        self.assertEqual(told, {(0,): (False, []), (1, 0, 0): (True, [(1, 0, 0)])})
        spec = ([], {"todo": one({"mark": ("new", "old"), "tone": ("red", "new")})})
        items = [("for", "todo", [part("a", ("both", ("id",), ("field", "mark")), []),
                                  part("a", ("both", ("id",), ("field", "tone")), [])])]
        told = told_of(spec, items)
        self.assertEqual(told[(0, 0, 0)], (True, [(0, 0, 1)]))
        self.assertEqual(told[(0, 0, 1)], (True, [(0, 0, 0)]))
        spec = ([], {"todo": one({"mark": ("new", "old"), "tone": ("red", "odd")})})
        self.assertEqual(told_of(spec, items)[(0, 0, 0)], (True, []))

    def test_words_in_keys_of_keys(self):
        field = ("field", "mark")
        for key in (("both", field, ("id",)), ("both", ("id",), field), ("both", ("both", field, ("id",)), ("word", "w")),
                    ("both", ("word", "w"), ("both", ("id",), field))):
            # The word of a row may change, and then the row is another one for its part.
            told = told_of(self.marked, [("for", "todo", [part("a", key)])])
            self.assertEqual(told, {(0, 0, 0): (True, [])})
            # Where one word alone is possible, nothing changes.
            items = [("for", "todo", [("if", ("field", "mark", "new"), [part("a", key)], [])])]
            self.assertEqual(told_of(self.marked, items), {(0, 0, 0, 0, 0): (False, [])})
        for key in (("both", field, field), ("both", ("word", "w"), field), ("both", field, ("word", "w"))):
            told = told_of(self.marked, [("for", "todo", [part("a", key)])])
            self.assertEqual(told, {(0, 0, 0): (True, [(0, 0, 0)])})

    def test_nodes_are_counted_with_those_of_one_key_and_kind(self):
        items = [("if", ("flag", "on"), [part("a", ("word", "w"))], []), part("b", ("word", "w")),
                 group([], ("word", "w")), part("a", ("word", "x")), part("a", ("word", "w"))]
        told = told_of(self.plain, items, "plain")
        self.assertEqual(told, {(0, 0, 0): (False, [(4,)]), (1,): (False, []), (3,): (False, []),
                                (4,): (True, [(0, 0, 0)])})

    def test_the_rule_for_nodes_without_a_key(self):
        items = [("if", ("flag", "on"), [part("b", ("word", "w"))], []), part("a")]
        self.assertEqual([told_of(self.plain, items, place)[(1,)][0] for place in PLACES], [True, False])
        items = [("if", ("flag", "on"), [group()], []), part("a")]
        self.assertEqual([told_of(self.plain, items, place)[(1,)][0] for place in PLACES], [True, True])

    def test_groups_take_their_parts_with_them(self):
        items = [("if", ("flag", "on"), [group([part("a")])], [group([part("a")])])]
        self.assertTrue(meet(self.plain, items, (0, 0, 0, 0, 0), (0, 1, 0, 0, 0)))
        items = [("if", ("flag", "on"), [group([part("a")])], [part("b", None, [part("a")])])]
        self.assertFalse(meet(self.plain, items, (0, 0, 0, 0, 0), (0, 1, 0, 0, 0)))
        items = [("if", ("flag", "on"), [group()], []), group([part("a")])]
        self.assertEqual(told_of(self.plain, items), {(1, 0, 0): (True, [])})
        items = [("for", "todo", [group([part("a", ("word", "w"))])])]
        self.assertEqual(told_of(self.plain, items), {(0, 0, 0, 0, 0): (True, [(0, 0, 0, 0, 0)])})

    def test_an_item_that_is_never_drawn(self):
        test = ("not", ("flag", "on"))
        items = [("if", ("flag", "on"), [("if", test, [part("a")], [part("b")])], []), part("c", ("word", "w"))]
        self.assertEqual(told_of(self.plain, items)[(0, 0, 0, 0, 0)], (False, []))
        template = Template(Shape(*self.plain), items)
        self.assertIsNone(losing(template, Rule(), (0, 0, 0, 0, 0)))
        self.assertIsNone(mixing(template, Rule(), (0, 0, 0, 0, 0), (0, 0, 0, 0, 0)))

    def test_the_worked_example(self):
        spec = ([], {"things": one()})
        items = [("for", "things", [part("row")]), part("end")]
        self.assertEqual(told_of(spec, items), {(0, 0, 0): (True, [(0, 0, 0)]), (1,): (True, [])})
        self.assertEqual(told_of(spec, items, "plain"), {(0, 0, 0): (True, [(0, 0, 0)]), (1,): (True, [])})
        items = [("for", "things", [part("row", ("id",))]), part("end")]
        self.assertIsNone(is_right(Template(Shape(*spec), items), Rule("plain")))
        self.assertEqual(told_of(spec, items), {(0, 0, 0): (False, []), (1,): (True, [])})


def sum_items(p, q, r):
    """An if: fors with p and q parts with keys and a part behind them, or r parts with keys and a part behind them."""
    first = [("for", "todo", [part("b", ("id",))] * p), ("for", "menu", [part("b", ("id",))] * q), part("a")]
    return [("if", ("flag", "on"), first, [part("b", ("word", "w"))] * r + [part("a")])]


class Sums(unittest.TestCase):
    spec = (["on"], {"todo": one(), "menu": one()})

    def reaches(self, p, q, r):
        return any(p * many + q * more == r for many in range(20) for more in range(20))

    def test_sums_of_multiples(self):
        for p, q, r in [(p, q, r) for p in range(1, 8) for q in range(p, 9) for r in range(19 - p - q)]:
            items = sum_items(p, q, r)
            self.assertEqual(meet(self.spec, items, (0, 0, 2), (0, 1, r)), self.reaches(p, q, r), (p, q, r))

    def test_shown_sums(self):
        for p, q, r in ((3, 5, 7), (3, 5, 8), (4, 6, 8), (4, 6, 7), (2, 7, 9), (5, 7, 1)):
            template = Template(Shape(*self.spec), sum_items(p, q, r))
            pair = mixing(template, Rule(), (0, 0, 2), (0, 1, r))
            self.assertEqual(pair is not None, self.reaches(p, q, r))
            if pair:
                fault = ("mixed", (0, 0, 2), (0, 1, r))
                self.assertIn(fault, fault_paths(template.spread(), "all", pair))

    def test_multiples_that_meet_late(self):
        # 20 x = 21 y + 1 for the first time with 20 and 19 rows.
        inside = [part("b", ("id",))] * 20 + [("if", ("flag", "on"), [part("b", ("id",))], [])]
        template = Template(Shape(*self.spec), [("for", "todo", inside), part("a")])
        self.assertEqual(verdicts(template, Rule())[(1,)], (True, []))
        first = [("for", "todo", [part("b", ("id",))] * 10), part("a")]
        second = [part("b", ("word", "w")), ("for", "menu", [part("b", ("id",))] * 7), part("a")]
        items = [("if", ("flag", "on"), first, second)]
        template = Template(Shape(*self.spec), items)
        pair = mixing(template, Rule(), (0, 0, 1), (0, 1, 2))
        self.assertEqual([len(pair[0]["lists"]["todo"]), len(pair[1]["lists"]["menu"])], [5, 7])
        second = [part("b", ("word", "w")), ("for", "menu", [part("b", ("id",))] * 5), part("a")]
        self.assertFalse(meet(self.spec, [("if", ("flag", "on"), first, second)], (0, 0, 1), (0, 1, 2)))

    def test_a_list_in_a_list(self):
        spec = (["on"], {"todo": one({}, {"step": one()})})
        for p, r in [(p, r) for p in range(1, 5) for r in range(9)]:
            steps = [("for", "step", [part("b", ("id",))] * p), part("a")]
            others = [part("b", ("word", "w"))] * r + [part("a")]
            items = [("for", "todo", [group([("if", ("flag", "on"), steps, others)], ("id",))])]
            at = (0, 0, 0, 0, 0)
            self.assertEqual(meet(spec, items, at + (0, 1), at + (1, r)), r % p == 0)

    def test_rows_that_add_different_numbers(self):
        spec = (["on"], {"todo": one({"mark": ("new", "old")})})
        inside = [("if", ("field", "mark", "new"), [part("b", ("id",))] * 4, [part("b", ("id",))] * 6)]
        for r in range(9):
            items = [("if", ("flag", "on"), [("for", "todo", inside), part("a")], [part("b", ("word", "w"))] * r + [part("a")])]
            self.assertEqual(meet(spec, items, (0, 0, 1), (0, 1, r)), r in (0, 4, 6, 8))

    def test_what_is_asked_behind_a_part_counts_for_the_rows_ahead(self):
        # Each row ahead adds two nodes, or three if a test behind the part holds.
        def meets(spec, test):
            rows = [("for", "todo", [part("a"), part("b", ("id",)), ("if", test, [part("b", ("id",))], [])])]
            items = [("if", ("empty", "todo"), [part("b", ("word", "w"))] * 3 + [part("a")], rows)]
            return meet(spec, items, (0, 1, 0, 0, 0), (0, 0, 3))

        marked = {"mark": ("new", "old")}
        self.assertTrue(meets((["on"], {"todo": one()}), ("flag", "on")))
        self.assertTrue(meets((["on"], {"todo": one()}), ("not", ("flag", "on"))))
        self.assertTrue(meets((["todo"], {"todo": one()}), ("flag", "todo")))
        self.assertTrue(meets(([], {"todo": one(), "menu": one()}), ("up", ("empty", "menu"))))
        self.assertTrue(meets(([], {"todo": one(), "menu": one()}), ("up", ("not", ("empty", "menu")))))
        self.assertTrue(meets(([], {"todo": one(marked)}), ("field", "mark", "old")))
        self.assertTrue(meets(([], {"todo": one({}, {"step": one()})}), ("empty", "step")))
        self.assertTrue(meets(([], {"todo": one({}, {"step": one()})}), ("not", ("empty", "step"))))
        # The list has rows where the part is drawn.
        self.assertFalse(meets(([], {"todo": one()}), ("up", ("empty", "todo"))))
        self.assertTrue(meets(([], {"todo": one()}), ("not", ("up", ("empty", "todo")))))

    def test_what_is_asked_of_the_row_around_counts_for_the_rows_ahead(self):
        spec = ([], {"todo": one({"mark": ("new", "old")}, {"step": one({"mark": ("old", "new")})})})
        for test, wanted in ((("up", ("field", "mark", "old")), True), (("up", ("field", "mark", "new")), True),
                             (("field", "mark", "new"), True), (("up", ("empty", "step")), False)):
            steps = ("for", "step", [part("a"), part("b", ("id",)), ("if", test, [part("b", ("id",))], [])])
            others = [part("b", ("word", "w"))] * 3 + [part("a")]
            items = [("for", "todo", [group([("if", ("empty", "step"), others, [steps])], ("id",))])]
            at = (0, 0, 0, 0, 0)
            self.assertEqual(meet(spec, items, at + (1, 0, 0, 0), at + (0, 3)), wanted)

    def test_a_list_that_is_not_empty(self):
        for p, r in [(p, r) for p in (2, 3) for r in range(7)]:
            first = [("if", ("empty", "todo"), [], [("for", "todo", [part("b", ("id",))] * p), part("a")])]
            items = [("if", ("flag", "on"), first, [part("b", ("word", "w"))] * r + [part("a")])]
            self.assertEqual(meet(self.spec, items, (0, 0, 0, 1, 1), (0, 1, r)), r > 0 and r % p == 0)


class WrongPaths(unittest.TestCase):
    def test_no_item(self):
        spec = rich()
        items, pieces = rich_items()
        template = Template(Shape(*spec), items, pieces=pieces)
        good = template.parts()[0]
        groups = [path for path in template.paths() if path not in template.parts()]
        self.assertTrue({"group", "if", "for"} <= {template.item_at(path)[0] for path in groups})
        for path in groups + wrong_paths(template.spread()):
            told = ("NoItem", path)
            self.assertEqual(outcome(losing, template, Rule(), path), told)
            self.assertEqual(outcome(mixing, template, Rule(), path, good), told)
            self.assertEqual(outcome(mixing, template, Rule(), good, path), told)
            self.assertEqual(outcome(mixing, template, Rule(), path, (99, 0, 0)), told)
        for path in template.parts():
            self.assertIsNone(outcome(losing, template, Rule(), path))
            self.assertIsNone(outcome(mixing, template, Rule(), path, good))


class Results(unittest.TestCase):
    def test_all_is_new(self):
        dice = random.Random(44)
        for turn in range(20):
            spec = dice.choice(SPECS)
            items = dice_templates.items(dice, spec)
            template = Template(Shape(*spec), items)
            before = copy.deepcopy(items)
            for rule in (Rule("all"), Rule("plain")):
                calls = [lambda: verdicts(template, rule), lambda: is_right(template, rule)]
                for path in template.parts():
                    calls.append(lambda path=path: losing(template, rule, path))
                    calls.append(lambda path=path: mixing(template, rule, path, path))
                for call in calls:
                    told = call()
                    wanted = exactly(told)
                    clear(told)
                    self.assertEqual(exactly(call()), wanted)
                self.assertEqual(exactly(template.spread()), exactly(before))

    def test_no_list_stands_twice_in_a_result(self):
        spec = (["on"], {"todo": one({"mark": ("new", "old")}, {"step": one()})})
        inside = [("if", ("empty", "step"), [], [part("b", ("id",))])]
        template = Template(Shape(*spec), [
            ("if", ("flag", "on"), [("for", "todo", inside), part("a")], [part("b")] * 5 + [part("a")])])
        for data in mixing(template, Rule(), (0, 0, 1), (0, 1, 5)):
            rows = data["lists"]["todo"]
            held = [row[key] for row in rows for key in ("fields", "lists")] + [row["lists"]["step"] for row in rows]
            self.assertEqual(len({id(value) for value in held}), len(held))


def key_of_fields():
    fields = ("both", ("field", "f"), ("field", "g"))
    return ("both", fields, ("up", fields))


class Large(unittest.TestCase):
    """Templates at the limits, for the largest shape."""

    def test_in_a_short_time(self):
        fields = {"f": ("a", "b", "c"), "g": ("a", "b", "c")}
        spec = (["x", "y"], {"todo": one(fields, {"step": one(fields)}), "menu": one(fields, {"bite": one(fields)})})
        ids = ("both", ("both", ("id",), ("field", "g")), ("up", ("both", ("id",), ("field", "g"))))
        tests = [("flag", "x"), ("flag", "y"), ("up", ("up", ("empty", "menu"))), ("field", "f", "a"),
                 ("up", ("field", "f", "b")), ("field", "g", "b"), ("up", ("field", "g", "b")), ("up", ("field", "g", "a"))]
        started = time.monotonic()
        for key in (None, ids, key_of_fields()):
            steps = [("if", test, [part("a", key)], []) for test in tests] + [part("a", key)] * 4 + [part("a")]
            items = [("for", "todo", [group([("for", "step", steps)])])]
            template = Template(Shape(*spec), items)
            self.assertEqual(len(template.paths()), 24)
            for place in PLACES:
                told = verdicts(template, Rule(place))
                self.assertEqual(told[template.parts()[-1]][0], True)
                self.assertTrue(fault_paths(items, place, is_right(template, Rule(place))))
        self.assertLess(time.monotonic() - started, 30)

    def test_eight_levels(self):
        spec = ([], {"todo": one({}, {"step": one()})})
        items = [("for", "step", [part("a", None, [part("a")])])]
        for level in range(4):
            items = [part("a", None, items)]
        items = [("for", "todo", items)]
        template = Template(Shape(*spec), items)
        told = verdicts(template, Rule())
        deepest = template.parts()[-1]
        self.assertEqual(len(deepest), 15)
        self.assertEqual(told, {path: (True, [path]) for path in template.parts()})
        self.assertIn(("mixed", deepest, deepest), fault_paths(items, "all", mixing(template, Rule(), deepest, deepest)))


if __name__ == "__main__":
    unittest.main()
