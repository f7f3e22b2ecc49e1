"""Moves from one drawing to another, and their cost (points 37 and 38)."""

import random
import time
import unittest

import chance
import expected_moves
import expected_screens
from expected_screens import plain, walked
from helpers import clear, exactly
from samples import group, one, part
from statestay.drawing import Node, draw
from statestay.matching import Rule, match
from statestay.moves import cost, done, moves
from statestay.shapes import Shape
from statestay.templates import Template

PLACES = ("all", "plain")


def node(kind, key, number, below=()):
    return Node(kind, key, ((number,), ()), below)


def changed(dice, nodes, owners):
    """The nodes with some left out, put elsewhere, put in, or made with another key or kind."""
    found = []
    for one in nodes:
        what = dice.random()
        below = changed(dice, one.below(), owners)
        kind = dice.choice([None, "a", "b"]) if what < 0.1 else one.kind
        key = dice.choice(chance.KEYS) if 0.05 < what < 0.15 else one.key
        if what < 0.85:
            found.append(Node(kind, key, one.owner, below))
        if what > 0.9 and owners:
            found.append(Node(dice.choice([None, "a"]), dice.choice(chance.KEYS), owners.pop(), below))
    if len(found) > 1 and dice.random() < 0.5:
        found.insert(dice.randrange(len(found)), found.pop(dice.randrange(len(found))))
    return found


class Moves(unittest.TestCase):
    def right(self, place, old, new):
        """Check moves and cost against the second writing."""
        rule = Rule(place)
        told = moves(rule, old, new)
        wanted = expected_moves.two_lists(place, plain(old), plain(new))
        self.assertEqual([row[:2] for row in told], [row[:2] for row in wanted])
        for row, (before, after, left, right) in zip(told, wanted):
            self.assertEqual((type(row), len(row), type(row[2])), (tuple, 3, list))
            self.assertTrue(expected_moves.fits(left, right, row[2]), (left, right, row[2]))
            self.assertEqual(done(left, row[2]), right)
        self.assertEqual([row[:2] for row in told[1:]], match(rule, old, new))
        moved = sum([expected_moves.moves_needed(left, right) for before, after, left, right in wanted])
        many = len(wanted) - 1
        numbers = (moved, len(walked(plain(new))) - many, len(walked(plain(old))) - many)
        self.assertEqual(exactly(cost(rule, old, new)), exactly(numbers))
        return told

    def test_no_nodes(self):
        for place in PLACES:
            self.assertEqual(exactly(moves(Rule(place), [], [])), exactly([(None, None, [])]))
            self.assertEqual(exactly(cost(Rule(place), [], [])), exactly((0, 0, 0)))

    def test_nothing_changed(self):
        nodes = [node("a", None, 0, [node("b", ("id", 1), 1)]), node(None, None, 2)]
        for place in PLACES:
            told = [(None, None, [])] + [(((at,), ()), ((at,), ()), []) for at in range(3)]
            self.assertEqual(exactly(moves(Rule(place), nodes, nodes)), exactly(told))
            self.assertEqual(cost(Rule(place), nodes, nodes), (0, 0, 0))

    def test_labels_are_slots(self):
        old = [node("a", None, 0)]
        new = [node("a", None, 0), node("a", ("id", 3), 1)]
        self.assertEqual(exactly(moves(Rule(), old, new)), exactly([
            (None, None, [("insert", 1, ("a", ("id", 3), 0))]), (((0,), ()), ((0,), ()), [])]))
        self.assertEqual(exactly(moves(Rule(), new, old)), exactly([
            (None, None, [("remove", 1)]), (((0,), ()), ((0,), ()), [])]))
        self.assertEqual([cost(Rule(), old, new), cost(Rule(), new, old)], [(0, 1, 0), (0, 0, 1)])

    def test_keys_that_move(self):
        old = [node("a", ("id", at), at) for at in range(5)]
        new = [old[4], old[0], old[1], old[3], node("a", ("id", 9), 9)]
        told = self.right("all", old, new)
        self.assertEqual([row[:2] for row in told[1:]], [(one.owner, one.owner) for one in new[:4]])
        self.assertEqual(cost(Rule(), old, new), (1, 1, 1))

    def test_owners_do_not_count(self):
        old = [node("a", None, 0), node("a", None, 1)]
        new = [node("a", None, 1), node("a", None, 0), node("a", None, 2)]
        told = self.right("plain", old, new)
        self.assertEqual([row[:2] for row in told], [
            (None, None), (((0,), ()), ((1,), ())), (((1,), ()), ((0,), ()))])
        self.assertEqual(cost(Rule("plain"), old, new), (0, 1, 0))

    def test_what_is_below_nodes_that_are_not_matched(self):
        below = [node("b", ("id", 1), 1), node("b", ("id", 2), 2, [node("b", None, 3)])]
        old, new = [node("a", ("id", 1), 0, below)], [node("a", ("id", 2), 0, below)]
        for place in PLACES:
            told = self.right(place, old, new)
            self.assertEqual([row[:2] for row in told], [(None, None)])
            self.assertEqual(cost(Rule(place), old, new), (0, 4, 4))

    def test_moves_at_all_levels(self):
        def row(order, number):
            return [node("b", ("id", at), number + at) for at in order]

        old = [node("a", ("id", at), at, row([0, 1, 2], 10 * at + 10)) for at in range(2)]
        new = [node("a", ("id", 1), 1, row([2, 0, 1], 20)), node("a", ("id", 0), 0, row([1, 0, 2], 10))]
        for place in PLACES:
            self.right(place, old, new)
            self.assertEqual(cost(Rule(place), old, new), (3, 0, 0))

    def test_both_rules_differ(self):
        old = [node("a", None, 0), node("b", None, 1)]
        new = [node("a", ("id", 1), 5), node("a", None, 0), node("b", None, 1)]
        self.assertEqual([cost(Rule(place), old, new) for place in PLACES], [(0, 3, 2), (0, 1, 0)])
        for place in PLACES:
            self.right(place, old, new)
            self.right(place, new, old)

    def test_trees_that_dice_choose(self):
        dice = random.Random(37)
        for turn in range(300):
            owners = chance.some_owners(60)
            old = chance.forest(dice, owners, dice.choice([3, 5]), dice.choice([1, 2, 3]))
            new = changed(dice, old, owners)
            if turn % 5 == 0:
                new = chance.forest(dice, chance.some_owners(40), 4, 2)
            for place in PLACES:
                self.right(place, old, new)
                self.right(place, new, old)

    def test_drawings(self):
        dice = random.Random(38)
        for turn in range(40):
            spec = dice.choice(chance.specs())
            template = Template(Shape(*spec), chance.items(dice, spec))
            first = chance.data(dice, spec)
            old, new = draw(template, first), draw(template, chance.changed(dice, spec, first))
            for place in PLACES:
                self.right(place, old, new)

    def test_the_nodes_stay_and_the_result_is_new(self):
        old = [node("a", ("id", at), at) for at in range(4)]
        new = [node("a", ("id", 3 - at), at + 5, [node("b", None, at + 10)]) for at in range(4)]
        before = exactly([plain(old), plain(new)])
        told = moves(Rule(), old, new)
        wanted = exactly(told)
        clear(told)
        self.assertEqual(exactly(moves(Rule(), old, new)), wanted)
        self.assertEqual(exactly([plain(old), plain(new)]), before)


class LargeDrawings(unittest.TestCase):
    def test_8000_nodes(self):
        started = time.monotonic()
        wide = [node("a", ("id", at), at) for at in range(8000)]
        tall = [node(None, ("id", at // 12), at) for at in range(7992)]
        for level in range(10, -1, -1):
            tall = [Node(None, ("id", at), ((at * 12 + level,), (1,)), [tall[at]]) for at in range(666)]
        for place in PLACES:
            rule = Rule(place)
            self.assertEqual(cost(rule, wide, wide[::-1]), (7999, 0, 0))
            self.assertEqual(done(rule(wide), moves(rule, wide, wide[::-1])[0][2]), rule(wide[::-1]))
            self.assertEqual(cost(rule, tall, tall[1:] + tall[:1])[0], 1)
            self.assertEqual(len(moves(rule, tall, tall[::-1])), 1 + sum([one.size() for one in tall]))
        self.assertLess(time.monotonic() - started, 20)

    def test_a_drawing_with_300_rows(self):
        template = Template(Shape([], {"todo": one()}), [
            ("for", "todo", [part("a", ("id",), [part("b"), group()])]), part("end")])
        rows = [{"id": at, "fields": {}, "lists": {}} for at in range(300)]
        old, new = [draw(template, {"flags": {}, "lists": {"todo": several}}) for several in (rows, rows[150:])]
        self.assertEqual([cost(Rule(place), old, new) for place in PLACES], [(0, 1, 451), (0, 0, 450)])
        old, new = [draw(template, {"flags": {}, "lists": {"todo": several}}) for several in (rows, rows[::-1])]
        self.assertEqual([cost(Rule(place), old, new) for place in PLACES], [(299, 0, 0), (299, 0, 0)])
        self.assertEqual(expected_screens.match_by_addresses("all", plain(old), plain(new)), match(Rule(), old, new))


if __name__ == "__main__":
    unittest.main()
