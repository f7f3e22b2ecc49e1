"""Nodes (point 22)."""

import random
import unittest

import chance
import expected_screens
from helpers import exactly
from samples import one, part
from statestay.drawing import Node, draw
from statestay.matching import Rule, addresses, faults, match
from statestay.shapes import Shape
from statestay.templates import Template


def owner(number):
    return ((number,), ())


def leaf(number, kind="a", key=None):
    return Node(kind, key, owner(number))


def numbers(nodes):
    return [node.owner[0][0] for node in nodes]


def three_levels(make):
    """Nodes that are numbered in the order of walk, their lists made by list or tuple."""
    two = Node("b", ("id", 2), owner(2), make([leaf(3), leaf(4, None)]))
    five = Node(None, ("word", "w"), owner(5), make([leaf(6)]))
    return Node("a", None, owner(1), make([two, five, leaf(7)]))


class Attributes(unittest.TestCase):
    def test_a_part(self):
        key = ("both", ("id", 1), ("word", "a"))
        node = Node("row", key, ((1, 0, 2), (5, 0)), [])
        self.assertEqual(exactly([node.kind, node.key, node.owner]), exactly(["row", key, ((1, 0, 2), (5, 0))]))

    def test_a_group_without_a_key(self):
        node = Node(None, None, ((0,), ()))
        self.assertEqual(exactly([node.kind, node.key, node.owner]), exactly([None, None, ((0,), ())]))

    def test_by_keywords(self):
        node = Node(kind="a", key=("id", 1), owner=owner(1), nodes=[leaf(2)])
        self.assertEqual((node.kind, node.key, node.owner, numbers(node.below())), ("a", ("id", 1), owner(1), [2]))


class Below(unittest.TestCase):
    def test_without_nodes(self):
        for node in (leaf(1), Node("a", None, owner(1), []), Node("a", None, owner(1), ())):
            self.assertEqual(exactly(node.below()), exactly([]))

    def test_lists_and_tuples(self):
        inside = [leaf(2), leaf(3), leaf(4)]
        for given in (inside, tuple(inside)):
            below = Node("a", None, owner(1), given).below()
            self.assertIs(type(below), list)
            self.assertEqual(len(below), 3)
            for mine, theirs in zip(below, inside):
                self.assertEqual((mine.kind, mine.owner), (theirs.kind, theirs.owner))

    def test_directly_below_alone(self):
        self.assertEqual(numbers(three_levels(list).below()), [2, 5, 7])
        self.assertEqual(numbers(three_levels(list).below()[0].below()), [3, 4])

    def test_the_given_list_is_copied(self):
        given = [leaf(2), leaf(3)]
        node = Node("a", None, owner(1), given)
        given.reverse()
        self.assertEqual(numbers(node.below()), [2, 3])
        given.clear()
        self.assertEqual((numbers(node.below()), node.size(), numbers(node.walk())), ([2, 3], 3, [1, 2, 3]))

    def test_the_given_list_stays(self):
        given = [leaf(2), leaf(3)]
        node = Node("a", None, owner(1), given)
        node.below().append(leaf(4))
        node.below().clear()
        self.assertEqual(numbers(given), [2, 3])

    def test_a_returned_list_is_new(self):
        node = three_levels(tuple)
        first = node.below()
        self.assertIsNot(first, node.below())
        first.clear()
        node.below().append(leaf(9))
        self.assertEqual((numbers(node.below()), node.size()), ([2, 5, 7], 7))

    def test_of_a_drawing(self):
        data = {"flags": {}, "lists": {"todo": [{"id": 3, "fields": {}, "lists": {}}]}}
        items = [part("a", None, [("for", "todo", [part("b")]), part("c")])]
        node = draw(Template(Shape([], {"todo": one()}), items), data)[0]
        node.below().clear()
        self.assertEqual([below.kind for below in node.below()], ["b", "c"])

    def test_nodes_made_without_nodes_share_no_list(self):
        first = leaf(1)
        second = leaf(2)
        first.below().append(leaf(3))
        self.assertEqual((first.below(), second.below(), leaf(4).below()), ([], [], []))


class Walk(unittest.TestCase):
    def test_order(self):
        for make in (list, tuple):
            self.assertEqual(numbers(three_levels(make).walk()), [1, 2, 3, 4, 5, 6, 7])

    def test_it_is_a_generator(self):
        walk = three_levels(list).walk()
        self.assertEqual(type(walk).__name__, "generator")
        self.assertEqual([next(walk).owner, next(walk).owner], [owner(1), owner(2)])

    def test_the_node_itself(self):
        node = leaf(1)
        self.assertEqual([one is node for one in node.walk()], [True])

    def test_it_yields_the_nodes_below(self):
        node = three_levels(list)
        every = list(node.walk())
        self.assertIs(every[0], node)
        self.assertTrue(all(type(one) is Node for one in every))
        self.assertEqual([[one.kind, one.key] for one in every], [
            ["a", None], ["b", ("id", 2)], ["a", None], [None, None], [None, ("word", "w")], ["a", None], ["a", None]])

    def test_twice(self):
        node = three_levels(list)
        self.assertEqual(numbers(node.walk()), numbers(node.walk()))

    def test_trees_that_dice_choose(self):
        dice = random.Random(5)
        for time in range(200):
            nodes = chance.forest(dice, chance.some_owners(40), 4, 5)
            top = Node(None, None, ((99,), ()), nodes)
            walked = expected_screens.walked(expected_screens.plain([top]))
            self.assertEqual([node.owner for node in top.walk()], [node[2] for node in walked])
            self.assertEqual(exactly(top.size()), exactly(len(walked)))
            self.assertEqual(sum(node.size() for node in nodes) + 1, len(walked))


class Size(unittest.TestCase):
    def test_sizes(self):
        self.assertEqual([leaf(1).size(), Node(None, None, owner(1), [leaf(2)]).size()], [1, 2])
        self.assertEqual([node.size() for node in three_levels(tuple).walk()], [7, 3, 1, 1, 2, 1, 1])

    def test_deep(self):
        node = leaf(0)
        for number in range(1, 12):
            node = Node("a", None, owner(number), [node])
        self.assertEqual((node.size(), numbers(node.walk())), (12, list(range(11, -1, -1))))

    def test_wide(self):
        node = Node("a", None, owner(0), [leaf(number) for number in range(1, 8000)])
        self.assertEqual((node.size(), numbers(node.walk())), (8000, list(range(8000))))


class NodesAreTaken(unittest.TestCase):
    """Functions take drawn nodes and nodes made by hand."""

    def test_alike(self):
        data = {"flags": {}, "lists": {"todo": [{"id": at, "fields": {}, "lists": {}} for at in (3, 1)]}}
        items = [part("a", ("word", "w"), [("for", "todo", [part("b")])])]
        nodes = draw(Template(Shape([], {"todo": one()}), items), data)
        rows = [Node("b", None, ((0, 0, 0, 0, 0), (number,))) for number in (3, 1)]
        made = [Node("a", ("word", "w"), ((0,), ()), rows)]
        for rule in (Rule("all"), Rule("plain")):
            self.assertEqual(rule(nodes), rule(made))
            self.assertEqual(addresses(rule, nodes), addresses(rule, made))
            self.assertEqual(match(rule, nodes, made), match(rule, made, nodes))
            self.assertEqual((len(match(rule, nodes, made)), faults(rule, nodes, made)), (3, []))


if __name__ == "__main__":
    unittest.main()
