"""Addresses, matching and faults (points 25 to 28)."""

import itertools
import random
import unittest

import chance
import expected_screens
from helpers import exactly
from samples import group, one, part
from statestay.drawing import Node, draw
from statestay.matching import Rule, addresses, faults, match
from statestay.shapes import Shape, all_data
from statestay.templates import Template

PLACES = ("all", "plain")


def owner(number):
    return ((number,), ())


def node(number, kind="a", key=None, nodes=()):
    return Node(kind, key, owner(number), nodes)


def group_node(number, key=None, nodes=()):
    return Node(None, key, owner(number), nodes)


def numbers(pairs):
    """The numbers of the owners in a list of pairs of owners."""
    return [(before[0][0], after[0][0]) for before, after in pairs]


def short(found):
    """Faults with numbers in the place of owners."""
    return [fault[:1] + tuple(one[0][0] for one in fault[1:]) for fault in found]


class Against(unittest.TestCase):
    """Compares all that is told of two lists of nodes with two other ways to tell it."""

    def compare(self, old, new):
        before, after = expected_screens.plain(old), expected_screens.plain(new)
        for place in PLACES:
            rule = Rule(place)
            pairs = match(rule, old, new)
            self.assertEqual(exactly(pairs), exactly(expected_screens.match_by_addresses(place, before, after)))
            self.assertEqual(pairs, expected_screens.match_in_order(place, before, after))
            self.assertEqual(exactly(faults(rule, old, new)), exactly(expected_screens.faults(place, before, after)))
            self.assertEqual(exactly(addresses(rule, old)), exactly(expected_screens.addresses(place, before)))
        self.assertEqual((expected_screens.plain(old), expected_screens.plain(new)), (before, after))


class Addresses(unittest.TestCase):
    def test_no_nodes(self):
        self.assertEqual(exactly(addresses(Rule(), [])), exactly({}))

    def test_several_levels(self):
        nodes = [
            node(1, "a", ("id", 5), [node(2), group_node(3, None, [node(4, "b", ("id", 5)), node(5)])]),
            group_node(6, ("id", 5), [node(7, "a", ("word", "w"))]),
            node(8),
        ]
        first = ("a", ("id", 5), 0)
        self.assertEqual(exactly(addresses(Rule("all"), nodes)), exactly({
            owner(1): (first,),
            owner(2): (first, ("a", None, 0)),
            owner(3): (first, (None, None, 1)),
            owner(4): (first, (None, None, 1), ("b", ("id", 5), 0)),
            owner(5): (first, (None, None, 1), ("a", None, 1)),
            owner(6): ((None, ("id", 5), 0),),
            owner(7): ((None, ("id", 5), 0), ("a", ("word", "w"), 0)),
            owner(8): (("a", None, 2),),
        }))
        plain = addresses(Rule("plain"), nodes)
        self.assertEqual(plain[owner(8)], (("a", None, 0),))
        self.assertEqual(plain[owner(5)], (first, (None, None, 1), ("a", None, 0)))

    def test_of_a_drawing(self):
        items = [part("a"), ("for", "todo", [group([part("row")], ("id",))])]
        data = {"flags": {}, "lists": {"todo": [{"id": at, "fields": {}, "lists": {}} for at in (4, 2)]}}
        found = addresses(Rule(), draw(Template(Shape([], {"todo": one()}), items), data))
        self.assertEqual(found, {
            ((0,), ()): (("a", None, 0),),
            ((1, 0, 0), (4,)): ((None, ("id", 4), 0),),
            ((1, 0, 0, 0, 0), (4,)): ((None, ("id", 4), 0), ("row", None, 0)),
            ((1, 0, 0), (2,)): ((None, ("id", 2), 0),),
            ((1, 0, 0, 0, 0), (2,)): ((None, ("id", 2), 0), ("row", None, 0)),
        })

    def test_it_is_new(self):
        nodes = [node(1), node(2)]
        found = addresses(Rule(), nodes)
        found.clear()
        self.assertEqual(len(addresses(Rule(), nodes)), 2)

    def test_an_entry_for_each_node_and_all_different(self):
        dice = random.Random(26)
        for time in range(300):
            nodes = chance.forest(dice, chance.some_owners(30), 5, 4)
            plain = expected_screens.plain(nodes)
            for place in PLACES:
                found = addresses(Rule(place), nodes)
                self.assertEqual(sorted(found), sorted(one[2] for one in expected_screens.walked(plain)))
                self.assertEqual(len(set(found.values())), len(found))
                self.assertEqual(exactly(found), exactly(expected_screens.addresses(place, plain)))


class Match(unittest.TestCase):
    def pairs(self, old, new):
        """The pairs by both rules, which are the same."""
        found = [numbers(match(Rule(place), old, new)) for place in PLACES]
        self.assertEqual(found[0], found[1])
        return found[0]

    def test_the_form(self):
        old = [Node("a", ("id", 1), ((0, 0, 0), (1,)))]
        new = [Node("a", ("id", 1), ((1, 1, 0), (1, 2)))]
        for place in PLACES:
            self.assertEqual(exactly(match(Rule(place), old, new)),
                             exactly([(((0, 0, 0), (1,)), ((1, 1, 0), (1, 2)))]))

    def test_no_nodes(self):
        for place in PLACES:
            for old, new in (([], []), ([node(1)], []), ([], [node(1)])):
                self.assertEqual(exactly(match(Rule(place), old, new)), exactly([]))
                self.assertEqual(exactly(faults(Rule(place), old, new)), exactly([]))

    def test_kinds(self):
        self.assertEqual(self.pairs([node(1, "a"), group_node(2)], [node(3, "a"), group_node(4)]), [(1, 3), (2, 4)])
        self.assertEqual(self.pairs([node(1, "a"), group_node(2)], [group_node(3), node(4, "a")]), [])
        self.assertEqual(self.pairs([node(1, "a")], [node(1, "b")]), [])
        key = ("id", 1)
        self.assertEqual(self.pairs([node(1, "a", key), group_node(2, key)], [group_node(3, key), node(4, "a", key)]),
                         [(2, 3), (1, 4)])

    def test_keys_in_another_order(self):
        old = [node(at, "a", ("id", at)) for at in (1, 2, 3)]
        new = [node(10 + at, "a", ("id", at)) for at in (3, 4, 1)]
        self.assertEqual(self.pairs(old, new), [(3, 13), (1, 11)])

    def test_keys_that_differ(self):
        self.assertEqual(self.pairs([node(1, "a", ("id", 1))], [node(1, "a", ("id", 2))]), [])
        self.assertEqual(self.pairs([node(1, "a", ("id", 1))], [node(1, "a")]), [])
        self.assertEqual(self.pairs([node(1, "a", ("word", "w"))], [node(1, "a", ("field", "w"))]), [])

    def test_equal_keys(self):
        key = ("word", "w")
        old = [node(1, "a", key), node(2, "b", key), node(3, "a", key), node(4, "a", key)]
        new = [node(5, "b", key), node(6, "a", key), node(7, "b", key), node(8, "a", key)]
        self.assertEqual(self.pairs(old, new), [(2, 5), (1, 6), (3, 8)])

    def test_without_keys_the_rules_differ(self):
        old = [node(1), node(2, "a", ("id", 1)), node(3)]
        new = [node(4, "a", ("id", 2)), node(5), node(6)]
        self.assertEqual(numbers(match(Rule("all"), old, new)), [(3, 6)])
        self.assertEqual(numbers(match(Rule("plain"), old, new)), [(1, 5), (3, 6)])

    def test_without_keys_of_other_kinds(self):
        old = [node(1, "a"), node(2, "b"), node(3, "a")]
        new = [node(4, "b"), node(5, "b"), node(6, "a"), node(7, "a")]
        self.assertEqual(self.pairs(old, new), [(2, 5), (3, 6)])

    def test_each_node_before_the_nodes_below_it(self):
        old = [node(1, "a", None, [node(2), node(3, "b", None, [node(4)])]), group_node(5, None, [node(6)])]
        new = [node(11, "a", None, [node(12), node(13, "b", None, [node(14)])]), group_node(15, None, [node(16)])]
        self.assertEqual(self.pairs(old, new), [(1, 11), (2, 12), (3, 13), (4, 14), (5, 15), (6, 16)])

    def test_the_order_of_the_new_list(self):
        old = [node(1, "a", ("id", 1), [node(2, "a", ("id", 1)), node(3, "a", ("id", 2))]),
               node(4, "a", ("id", 2), [node(5, "a", ("id", 3))])]
        new = [node(6, "a", ("id", 2), [node(7, "a", ("id", 3))]),
               node(8, "a", ("id", 1), [node(9, "a", ("id", 2)), node(10, "a", ("id", 1))])]
        self.assertEqual(self.pairs(old, new), [(4, 6), (5, 7), (1, 8), (3, 9), (2, 10)])

    def test_below_nodes_that_are_not_matched(self):
        old = [node(1, "a", ("id", 1), [node(2, "b", ("id", 5))])]
        for new in ([node(1, "a", ("id", 2), [node(2, "b", ("id", 5))])],
                    [node(1, "c", ("id", 1), [node(2, "b", ("id", 5))])], [node(2, "b", ("id", 5))],
                    [group_node(1, ("id", 1), [node(2, "b", ("id", 5))])]):
            self.assertEqual(self.pairs(old, new), [])
            self.assertEqual(self.pairs(new, old), [])

    def test_below_the_node_that_is_matched(self):
        key = ("id", 1)
        old = [node(1, "a", key, [node(2, "b", ("id", 8))]), node(3, "a", key, [node(4, "b", ("id", 9))])]
        new = [node(5, "a", key, [node(6, "b", ("id", 9))]), node(7, "a", key, [node(8, "b", ("id", 9))])]
        self.assertEqual(self.pairs(old, new), [(1, 5), (3, 7), (4, 8)])

    def test_the_owners_do_not_count(self):
        old = [node(1, "a", ("id", 1)), node(2, "a", ("id", 2))]
        new = [node(1, "a", ("id", 2)), node(2, "a", ("id", 1))]
        self.assertEqual(self.pairs(old, new), [(2, 1), (1, 2)])


class Faults(unittest.TestCase):
    def both(self, old, new):
        found = [short(faults(Rule(place), old, new)) for place in PLACES]
        self.assertEqual(found[0], found[1])
        return found[0]

    def test_none(self):
        old = [node(1, "a", ("id", 1)), node(2, "a", ("id", 2))]
        self.assertEqual(self.both(old, [node(2, "a", ("id", 2)), node(3, "a", ("id", 3)), old[0]]), [])

    def test_a_part_that_is_gone_is_not_lost(self):
        self.assertEqual(self.both([node(1, "a", ("id", 1))], [node(2, "a", ("id", 2))]), [])

    def test_lost_alone(self):
        self.assertEqual(self.both([node(1, "a", ("id", 1))], [node(1, "a", ("id", 2))]), [("lost", 1)])
        self.assertEqual(self.both([node(1, "a")], [node(1, "b")]), [("lost", 1)])

    def test_mixed_alone(self):
        self.assertEqual(self.both([node(1)], [node(2)]), [("mixed", 1, 2)])

    def test_a_part_in_both(self):
        self.assertEqual(self.both([node(1), node(2)], [node(2), node(1)]),
                         [("lost", 1), ("lost", 2), ("mixed", 1, 2), ("mixed", 2, 1)])

    def test_orders(self):
        old = [node(1, "a", ("id", 1)), node(2, "a", ("id", 2), [node(3)]), node(4, "a", ("id", 4))]
        new = [node(4, "a", ("id", 2), [node(2)]), node(3, "a", ("id", 4)), node(1, "a", ("id", 1)),
               node(5, "b", ("id", 1))]
        self.assertEqual(self.both(old, new), [
            ("lost", 2), ("lost", 3), ("lost", 4), ("mixed", 2, 4), ("mixed", 3, 2), ("mixed", 4, 3)])

    def test_lost_in_the_order_of_the_old_list(self):
        old = [node(5, "a", None, [node(3), node(9)]), node(1)]
        new = [node(1, "b", None, [node(9)]), node(3, "c"), node(5, "b")]
        self.assertEqual(self.both(old, new), [("lost", 5), ("lost", 3), ("lost", 9), ("lost", 1)])

    def test_groups_have_none(self):
        old = [group_node(1), group_node(2, ("id", 1))]
        new = [group_node(2), group_node(3), group_node(1, ("id", 1))]
        self.assertEqual(self.both(old, new), [])

    def test_parts_in_groups_have_some(self):
        old = [group_node(1, None, [node(2)]), group_node(3, None, [node(4)])]
        new = [group_node(3, None, [node(4)]), group_node(1, None, [node(2)])]
        self.assertEqual(self.both(old, new), [("lost", 2), ("lost", 4), ("mixed", 2, 4), ("mixed", 4, 2)])

    def test_an_owner_of_a_part_and_of_a_group(self):
        self.assertEqual(self.both([node(1)], [group_node(1)]), [])
        self.assertEqual(self.both([group_node(1)], [node(1)]), [])
        self.assertEqual(self.both([node(1), group_node(2)], [node(2), group_node(1)]), [("mixed", 1, 2)])

    def test_matched_on_another_level(self):
        old = [node(1, "a", None, [node(2)])]
        self.assertEqual(self.both(old, [node(2, "a", None, [node(1)])]), [
            ("lost", 1), ("lost", 2), ("mixed", 1, 2), ("mixed", 2, 1)])
        self.assertEqual(self.both(old, [node(2)]), [("lost", 2), ("mixed", 1, 2)])

    def test_by_both_rules(self):
        old = [node(1, "a", ("id", 1)), node(2)]
        new = [node(2)]
        self.assertEqual(short(faults(Rule("all"), old, new)), [("lost", 2)])
        self.assertEqual(short(faults(Rule("plain"), old, new)), [])
        old, new = [node(1), node(2), node(3)], [node(4, "a", ("id", 1)), node(3)]
        self.assertEqual(short(faults(Rule("all"), old, new)), [("lost", 3), ("mixed", 2, 3)])
        self.assertEqual(short(faults(Rule("plain"), old, new)), [("lost", 3), ("mixed", 1, 3)])

    def test_the_form(self):
        old, new = [node(1), node(2)], [node(2)]
        for place in PLACES:
            self.assertEqual(exactly(faults(Rule(place), old, new)),
                             exactly([("lost", owner(2)), ("mixed", owner(1), owner(2))]))


class WhatIsNew(unittest.TestCase):
    def test_lists_are_new(self):
        old, new = [node(1), node(2)], [node(2, "a", None, [node(3)])]
        for call in (match, faults):
            found = call(Rule(), old, new)
            before = list(found)
            found.clear()
            self.assertEqual(call(Rule(), old, new), before)
            self.assertGreater(len(before), 0)


class NodesByHand(Against):
    def test_every_two_short_lists(self):
        marks = [("a", None), ("a", ("id", 1)), ("b", None), (None, None)]
        lists = [several for many in range(4) for several in itertools.product(marks, repeat=many)]
        dice = random.Random(24)
        for before, after in dice.sample(list(itertools.product(lists, repeat=2)), 1500):
            old = [node(at, kind, key) for at, (kind, key) in enumerate(before)]
            order = dice.sample(range(4), len(after))
            self.compare(old, [node(at, kind, key) for at, (kind, key) in zip(order, after)])

    def test_trees(self):
        dice = random.Random(25)
        for time in range(1500):
            many = dice.choice([4, 8, 30])
            several = [chance.forest(dice, chance.some_owners(many), dice.choice([2, 4, 6]), 4) for tree in range(2)]
            self.compare(*several)

    def test_a_tree_with_itself(self):
        dice = random.Random(26)
        for time in range(300):
            tree = chance.forest(dice, chance.some_owners(30), 5, 4)
            owners = [one[2] for one in expected_screens.walked(expected_screens.plain(tree))]
            for place in PLACES:
                self.assertEqual(match(Rule(place), tree, tree), [(one, one) for one in owners])
                self.assertEqual(faults(Rule(place), tree, tree), [])


class Drawings(Against):
    def test_data_that_are_changed(self):
        dice = random.Random(27)
        seen = set()
        for turn in range(360):
            spec = chance.specs()[turn % 3]
            template = Template(Shape(*spec), chance.items(dice, spec))
            first = chance.data(dice, spec)
            old = draw(template, first)
            for time in range(2):
                new = draw(template, chance.changed(dice, spec, first))
                self.compare(old, new)
                self.compare(new, old)
                seen.update(fault[0] for fault in faults(Rule(), old, new))
            for place in PLACES:
                self.assertEqual(faults(Rule(place), old, draw(template, first)), [])
        self.assertEqual(seen, {"lost", "mixed"})

    def test_all_data_of_a_small_shape(self):
        shape = Shape(["on"], {"todo": one()})
        items = [("if", ("flag", "on"), [part("a"), group([part("b")])], [group()]),
                 ("for", "todo", [part("a"), part("b", ("id",))]), part("b")]
        drawings = [draw(Template(shape, items), data) for data in all_data(shape, 2)]
        for old, new in itertools.product(drawings, repeat=2):
            self.compare(old, new)

    def test_three_drawings_in_a_row(self):
        dice = random.Random(28)
        for turn in range(300):
            spec = chance.specs()[turn % 3]
            template = Template(Shape(*spec), chance.items(dice, spec))
            several = [chance.data(dice, spec)]
            for time in range(2):
                several.append(chance.changed(dice, spec, several[-1]))
            first, second, third = [draw(template, data) for data in several]
            for place in PLACES:
                rule = Rule(place)
                there = dict(match(rule, first, second))
                back = {after: before for before, after in match(rule, second, first)}
                self.assertEqual(there, back)
                onward = dict(match(rule, second, third))
                straight = dict(match(rule, first, third))
                for before, middle in there.items():
                    if middle in onward:
                        self.assertEqual(straight[before], onward[middle])


if __name__ == "__main__":
    unittest.main()
