"""Repairs (points 50 to 52)."""

import itertools
import random
import time
import unittest

import chance
import dice_templates
import expected
import expected_repairs
from expected_verdicts import node_paths, part_paths, wrong_paths
from helpers import clear, exactly, outcome
from samples import chain, group, one, part, rich, rich_items
from statestay.matching import Rule
from statestay.repairs import candidates, fewest, full_key, repaired, repairs
from statestay.right import is_right
from statestay.shapes import Shape
from statestay.templates import Template
from statestay.verdicts import verdicts

PLACES = ("all", "plain")
SPECS = dice_templates.specs()


def templates(seed, many):
    """Specs and items that dice choose, some of them large."""
    dice = random.Random(seed)
    for turn in range(many):
        if turn % 4 == 3:
            spec = dice.choice(chance.specs())
            yield dice, spec, chance.items(dice, spec)
        else:
            spec = SPECS[turn % len(SPECS)]
            yield dice, spec, dice_templates.items(dice, spec)


class Keys(unittest.TestCase):
    def test_full_keys(self):
        for dice, spec, items in templates(50, 120):
            template = Template(Shape(*spec), items)
            for path in node_paths(items):
                self.assertEqual(exactly(full_key(template, path)), exactly(expected_repairs.full_key(items, path)))

    def test_the_forms(self):
        spec = ([], {"todo": one({}, {"step": one()})})
        items = [("for", "todo", [group([("for", "step", [part("a")]), part("b", ("id",))])]), part("c")]
        template = Template(Shape(*spec), items)
        up = ("up", ("id",))
        for path, key in (
            ((0, 0, 0), ("both", ("word", "a"), ("id",))),
            ((0, 0, 0, 0, 0, 0, 0), ("both", ("both", ("word", "b"), ("id",)), up)),
            ((0, 0, 0, 0, 1), ("both", ("word", "c"), ("id",))), ((1,), ("word", "d")),
        ):
            self.assertEqual(exactly(full_key(template, path)), exactly(key))

    def test_24_letters(self):
        template = Template(Shape([], {}), [part("a") for at in range(24)])
        letters = [full_key(template, (at,)) for at in range(24)]
        self.assertEqual(letters, [("word", letter) for letter in "abcdefghijklmnopqrstuvwx"])

    def test_no_item(self):
        items, pieces = rich_items()
        template = Template(Shape(*rich()), items, pieces=pieces)
        spread = template.spread()
        forks = [path for path in template.paths() if path not in node_paths(spread)]
        for path in forks + wrong_paths(spread):
            self.assertEqual(outcome(full_key, template, path), ("NoItem", path))
        for path in node_paths(spread):
            self.assertEqual(full_key(template, path), expected_repairs.full_key(spread, path))


class Repaired(unittest.TestCase):
    def compare(self, spec, items, chosen):
        template = Template(Shape(*spec), items)
        before = exactly([items, chosen])
        wrong = [repair for repair in chosen if repair not in expected_repairs.candidates(items)]
        told = outcome(repaired, template, chosen)
        if wrong:
            self.assertEqual(told, ("InvalidRepair", wrong[0]))
        else:
            after = expected_repairs.repaired(items, chosen)
            error = expected.template_error(spec, after, None)
            self.assertEqual(told, error and ("InvalidTemplate",) + error)
            if error is None:
                result = repaired(template, chosen)
                self.assertEqual(exactly(result.spread()), exactly(after))
                self.assertTrue(result.shape == template.shape)
        self.assertEqual(exactly(template.spread()), exactly(items))
        self.assertEqual(exactly([items, chosen]), before)
        return told

    def test_candidates(self):
        for dice, spec, items in templates(51, 120):
            told = candidates(Template(Shape(*spec), items))
            self.assertEqual(exactly(told), exactly(expected_repairs.candidates(items)))
        self.assertEqual(candidates(Template(Shape([], {}), [])), [])

    def test_pieces_are_spread_out(self):
        items, pieces = rich_items()
        template = Template(Shape(*rich()), items, pieces=pieces)
        self.assertEqual(candidates(template), expected_repairs.candidates(template.spread()))
        self.assertEqual(len(candidates(template)), 24)

    def test_sets_that_dice_choose(self):
        told = []
        for dice, spec, items in templates(52, 200):
            every = expected_repairs.candidates(items)
            chosen = dice.sample(every, dice.randint(0, len(every)))
            told.append(self.compare(spec, items, chosen))
            wrong = [("key" if form == "wrap" else "wrap", path) for form, path in every]
            wrong += [(form, path) for path in wrong_paths(items) for form in ("key", "wrap")] + [("word", (0,))]
            wrong = [repair for repair in wrong if repair not in every]
            for many in (1, 2):
                mixed = chosen + dice.sample(wrong, many)
                dice.shuffle(mixed)
                self.compare(spec, items, mixed)
        self.assertGreater(told.count(None), 80)

    def test_any_order(self):
        for dice, spec, items in templates(53, 40):
            template = Template(Shape(*spec), items)
            chosen = [repair for repair in candidates(template) if dice.random() < 0.6]
            results = [outcome(repaired, template, chosen), outcome(repaired, template, chosen[::-1])]
            self.assertEqual(results[0], results[1])
            if results[0] is None:
                self.assertTrue(repaired(template, chosen) == repaired(template, chosen[::-1]))

    def test_no_repairs(self):
        for dice, spec, items in templates(54, 10):
            template = Template(Shape(*spec), items)
            self.assertTrue(repaired(template, []) == template)

    def test_chains_at_the_limits(self):
        spec = (["on"], {"todo": one()})
        flag = ("flag", "on")
        for deep in range(9):
            ifs = [part("a")]
            for level in range(deep):
                ifs = [("if", flag, ifs, [])] if level % 2 else [("if", flag, [], ifs)]
            for above in range(9 - deep if deep else 8):
                items = chain(max(0, min(above, 7 - deep)), ifs)
                if expected.template_error(spec, items, None) is None:
                    wraps = [repair for repair in expected_repairs.candidates(items) if repair[0] == "wrap"]
                    for many in range(len(wraps) + 1):
                        self.compare(spec, items, wraps[:many])
                        self.compare(spec, items, wraps[len(wraps) - many:][::-1])
        many = [("if", flag, [], []) for at in range(20)]
        told = [self.compare(spec, many, [("wrap", (at,)) for at in range(wraps)]) for wraps in range(8)]
        self.assertEqual(told, [None] * 5 + [("InvalidTemplate", "many", (at,)) for at in (19, 18, 17)])

    def test_too_deep(self):
        spec = (["on"], {"todo": one()})
        items = chain(6, [("if", ("flag", "on"), [part("a")], [part("b")])])
        self.assertEqual(outcome(repaired, Template(Shape(*spec), items), [("wrap", (0,) * 13)]),
                         ("InvalidTemplate", "depth", (0,) * 17))
        self.compare(spec, items, [("wrap", (0,) * 13)])
        self.compare(spec, items, [("wrap", (0,) * 13), ("key", (0,))])

    def test_the_result_shares_nothing(self):
        template = Template(Shape(["on"], {}), [("if", ("flag", "on"), [part("a")], [])])
        chosen = [("wrap", (0,)), ("key", (0, 0, 0))]
        result = repaired(template, chosen)
        wanted = exactly(result.spread())
        clear(chosen)
        clear(result.spread())
        self.assertEqual(exactly(result.spread()), wanted)
        told = candidates(template)
        clear(told)
        self.assertEqual(candidates(template), [("key", (0, 0, 0)), ("wrap", (0,))])


class AllKeys(unittest.TestCase):
    def test_all_key_repairs_together_make_right(self):
        for dice, spec, items in templates(55, 150):
            template = Template(Shape(*spec), items)
            chosen = [repair for repair in candidates(template) if repair[0] == "key"]
            dice.shuffle(chosen)
            result = repaired(template, chosen)
            for place in PLACES:
                self.assertIsNone(is_right(result, Rule(place)))

    def test_a_key_that_makes_a_right_template_wrong(self):
        spec = (["on"], {})
        items = [("if", ("flag", "on"), [part("a"), part("b")], [group(), part("b")])]
        template = Template(Shape(*spec), items)
        # Both parts b stand at place 1; with a key for the part a its neighbour is counted without it.
        self.assertEqual(verdicts(template, Rule("plain"))[(0, 0, 1)], (False, [(0, 1, 1)]))
        items = [("if", ("flag", "on"), [part("a"), part("b")], [part("b")])]
        template = Template(Shape(*spec), items)
        self.assertIsNone(is_right(template, Rule("plain")))
        self.assertIsNotNone(is_right(repaired(template, [("key", (0, 0, 0))]), Rule("plain")))
        self.assertIsNone(is_right(repaired(template, [("key", (0, 0, 0))]), Rule("all")))
        self.assertEqual(repairs(template, Rule("plain")), [()])


class LeastSets(unittest.TestCase):
    def compare(self, spec, items, place, most=2):
        template = Template(Shape(*spec), items)
        rule = Rule(place)
        told = repairs(template, rule)
        self.assertEqual(exactly([chosen for chosen in told if len(chosen) <= most]),
                         exactly(expected_repairs.least_sets(spec, items, place, most)))
        self.assertEqual(told, sorted(told, key=lambda chosen: (len(chosen), chosen)))
        self.assertEqual(exactly(fewest(template, rule)), exactly(len(told[0]) if told else None))
        for chosen in told:
            self.assertLessEqual(len(chosen), 3)
            self.assertEqual(chosen, tuple(sorted(set(chosen))))
            self.assertIsNone(is_right(repaired(template, list(chosen)), rule))
            for many in range(len(chosen)):
                for fewer in itertools.combinations(chosen, many):
                    self.assertFalse(expected_repairs.makes_right(spec, items, place, fewer))
        return told

    def test_templates_that_dice_choose(self):
        lengths = []
        for dice, spec, items in templates(56, 200):
            if len(expected.listed(items)) <= 12:
                for place in PLACES:
                    told = self.compare(spec, items, place)
                    lengths.extend([len(chosen) for chosen in told] or [None])
        for length in (0, 1, 2, 3, None):
            self.assertGreater(lengths.count(length), 0, length)

    def test_sets_of_three_against_all_sets(self):
        found = 0
        for dice, spec, items in templates(157, 300):
            if len(expected.listed(items)) <= 8 and len(part_paths(items)) > 2:
                for place in PLACES:
                    told = self.compare(spec, items, place, 3)
                    found += len([chosen for chosen in told if len(chosen) == 3])
        self.assertGreater(found, 3)

    def test_a_right_template(self):
        template = Template(Shape([], {}), [part("a"), group()])
        for place in PLACES:
            self.assertEqual(exactly(repairs(template, Rule(place))), exactly([()]))
            self.assertEqual(exactly(fewest(template, Rule(place))), exactly(0))
        self.assertEqual(repairs(Template(Shape([], {}), []), Rule()), [()])

    def test_no_set_of_three(self):
        spec = (["on"], {"todo": one()})
        items = [("for", "todo", [part("a"), part("b"), part("c"), part("d")])]
        template = Template(Shape(*spec), items)
        for place in PLACES:
            self.assertEqual(exactly(repairs(template, Rule(place))), exactly([]))
            self.assertIsNone(fewest(template, Rule(place)))
        items = [("for", "todo", [part("a"), part("b"), part("c")])]
        for place in PLACES:
            told = self.compare(spec, items, place)
            self.assertEqual(told, [(("key", (0, 0, 0)), ("key", (0, 0, 1)), ("key", (0, 0, 2)))])

    def test_a_set_that_is_refused_does_not_make_right(self):
        spec = (["on"], {"todo": one()})
        items = [("if", ("flag", "on"), [part("b")], []), part("a")]
        self.assertIn((("wrap", (0,)),), self.compare(spec, items, "all"))
        # Seven groups around leave no room for another one.
        told = self.compare(spec, chain(6, items), "all")
        self.assertNotIn((("wrap", (0,) * 13),), told)
        self.assertEqual(told[0], (("key", (0,) * 12 + (1,)),))

    def test_at_most_14_candidates(self):
        for many in (13, 14, 15, 24):
            wrong = Template(Shape([], {"todo": one()}), [("for", "todo", [part("a")] * (many - 1))])
            right = Template(Shape([], {"todo": one()}), [part("a")] * many)
            for template in (wrong, right):
                for place in PLACES:
                    wanted = ("LimitExceeded", 14) if many > 14 else None
                    self.assertEqual(outcome(repairs, template, Rule(place)), wanted)
                    self.assertEqual(outcome(fewest, template, Rule(place)), wanted)

    def test_14_candidates_in_a_short_time(self):
        started = time.monotonic()
        for dice, spec, items in templates(58, 300):
            if len(expected.listed(items)) in (13, 14):
                for place in PLACES:
                    template = Template(Shape(*spec), items)
                    told = repairs(template, Rule(place))
                    self.assertEqual(fewest(template, Rule(place)), len(told[0]) if told else None)
        self.assertLess(time.monotonic() - started, 60)

    def test_all_is_new(self):
        spec = (["on"], {"todo": one()})
        items = [("for", "todo", [part("row")]), part("end")]
        template = Template(Shape(*spec), items)
        told = repairs(template, Rule())
        wanted = exactly(told)
        clear(told)
        self.assertEqual(exactly(repairs(template, Rule())), wanted)
        self.assertEqual(template.spread(), items)


if __name__ == "__main__":
    unittest.main()
