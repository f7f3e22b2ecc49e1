"""Rules and slots (points 23 and 24)."""

import copy
import itertools
import unittest

from helpers import DEEP, ODD, clear, exactly, outcome
from statestay.drawing import Node
from statestay.matching import Rule

KEYS = [None, ("id", 1), ("word", "a")]


def siblings(several):
    """Nodes of these kinds and keys."""
    return [Node(kind, key, ((at,), ())) for at, (kind, key) in enumerate(several)]


def right_slots(place, several):
    """The slots of nodes of these kinds and keys."""
    found = []
    for at, (kind, key) in enumerate(several):
        if key is not None:
            index = several[:at].count((kind, key))
        elif place == "all":
            index = at
        else:
            index = [one[1] for one in several[:at]].count(None)
        found.append((kind, key, index))
    return found


class Places(unittest.TestCase):
    def test_right_places(self):
        self.assertEqual([Rule().place, Rule("all").place, Rule("plain").place], ["all", "all", "plain"])
        self.assertEqual([Rule(place="plain").place, Rule(place="all").place], ["plain", "all"])

    def test_class_values(self):
        self.assertEqual(exactly([Rule.ALL, Rule.PLAIN]), exactly(["all", "plain"]))
        self.assertEqual([Rule(Rule.ALL).place, Rule(Rule.PLAIN).place], ["all", "plain"])
        self.assertEqual([Rule().ALL, Rule("plain").ALL, Rule().PLAIN], ["all", "all", "plain"])

    def test_wrong_places(self):
        words = ["ALL", "Plain", "al", "alll", "plai", "plains", " all", "all ", "all\n", "allplain", "any", "key"]
        held = [["all"], ("all",), {"all": "plain"}, {"plain": 1}, ("all", "plain"), ["plain", "all"], [["plain"]]]
        for wrong in words + held + ODD:
            self.assertEqual(exactly(outcome(Rule, wrong)), exactly(("InvalidRule", wrong)))
            self.assertEqual(exactly(outcome(Rule, place=wrong)), exactly(("InvalidRule", wrong)))

    def test_wrong_places_nested_deep(self):
        for make in (lambda one: [one], lambda one: (one,), lambda one: {"all": one}):
            wrong = "all"
            for deep in range(12):
                wrong = make(wrong)
            self.assertEqual(exactly(outcome(Rule, wrong)), exactly(("InvalidRule", wrong)))
        for inside in DEEP[:3]:
            wrong = [[[[[[[[[[[inside]]]]]]]]]]]
            self.assertEqual(exactly(outcome(Rule, wrong)), exactly(("InvalidRule", wrong)))

    def test_a_wrong_place_stays(self):
        wrong = [{"all": ["plain", ("all", {})]}]
        before = copy.deepcopy(wrong)
        outcome(Rule, wrong)
        self.assertEqual(wrong, before)


class Equal(unittest.TestCase):
    def test_rules(self):
        for left, right in itertools.product(("all", "plain"), repeat=2):
            self.assertIs(Rule(left) == Rule(right), left == right)
            self.assertIs(Rule(left) != Rule(right), left != right)
        self.assertTrue(Rule() == Rule(Rule.ALL))

    def test_values_that_are_no_rules(self):
        for other in ["all", "plain", Rule, Node("a", None, ((0,), ()))] + ODD:
            for rule in (Rule("all"), Rule("plain")):
                self.assertIs(rule == other, False)
                self.assertIs(other == rule, False)
                self.assertIs(rule != other, True)


class Slots(unittest.TestCase):
    def both(self, several):
        """The indexes of the slots by both rules."""
        return [[slot[2] for slot in Rule(place)(siblings(several))] for place in ("all", "plain")]

    def test_no_nodes(self):
        self.assertEqual([exactly(Rule()([])), exactly(Rule("plain")([]))], [exactly([])] * 2)

    def test_the_form_of_a_slot(self):
        nodes = [Node("row", ("id", 3), ((4, 0, 2), (3,)), [Node("b", None, ((0,), ()))]), Node(None, None, ((7,), ()))]
        for rule in (Rule("all"), Rule("plain")):
            slots = rule(nodes)
            self.assertEqual(exactly(slots[0]), exactly(("row", ("id", 3), 0)))
            self.assertEqual(exactly(slots[1]), exactly((None, None, 1 if rule.place == "all" else 0)))

    def test_without_keys_whatever_the_kinds(self):
        self.assertEqual(self.both([("a", None), ("b", None), (None, None), ("a", None)]), [[0, 1, 2, 3]] * 2)

    def test_without_keys_behind_keys(self):
        several = [("a", ("id", 1)), ("a", None), ("b", ("id", 2)), ("b", None), (None, ("id", 3)), (None, None)]
        self.assertEqual(self.both(several), [[0, 1, 0, 3, 0, 5], [0, 0, 0, 1, 0, 2]])

    def test_equal_keys_of_one_kind(self):
        several = [("a", ("id", 1)), ("a", ("id", 2)), ("a", ("id", 1)), ("a", None), ("a", ("id", 1))]
        self.assertEqual(self.both(several), [[0, 0, 1, 3, 2], [0, 0, 1, 0, 2]])

    def test_equal_keys_of_several_kinds(self):
        key = ("word", "w")
        several = [("a", key), ("b", key), (None, key), ("b", key), (None, key), ("a", key)]
        self.assertEqual(self.both(several), [[0, 0, 0, 1, 1, 1]] * 2)

    def test_keys_that_look_alike(self):
        several = [("a", ("word", "w")), ("a", ("field", "w")), ("a", ("both", ("id", 1), ("id", 2))),
                   ("a", ("both", ("id", 2), ("id", 1))), ("a", ("both", ("id", 1), ("id", 2)))]
        self.assertEqual(self.both(several), [[0, 0, 0, 0, 1]] * 2)

    def test_every_list_of_few_nodes(self):
        marks = list(itertools.product(["a", "b", None], KEYS))
        for many in range(4):
            for several in itertools.product(marks, repeat=many):
                for place in ("all", "plain"):
                    slots = Rule(place)(siblings(several))
                    self.assertEqual(slots, right_slots(place, several))
                    self.assertEqual(len(set(slots)), many)

    def test_longer_lists(self):
        marks = list(itertools.product(["a", None], KEYS[:2]))
        for several in itertools.product(marks, repeat=6):
            for place in ("all", "plain"):
                slots = Rule(place)(siblings(several))
                self.assertEqual(slots, right_slots(place, several))
                self.assertEqual(len(set(slots)), 6)

    def test_asked_twice(self):
        first = siblings([("a", None), ("a", ("id", 1)), ("b", None)])
        second = siblings([("b", ("id", 1)), ("a", None), ("a", ("id", 1)), ("a", None), ("a", ("id", 1))])
        for place in ("all", "plain"):
            rule = Rule(place)
            slots = rule(first)
            self.assertEqual(rule(second), Rule(place)(second))
            self.assertEqual(rule(first), slots)
            clear(slots)
            self.assertEqual(rule(first), Rule(place)(first))
            self.assertEqual((rule.place, rule == Rule(place)), (place, True))

    def test_the_nodes_stay(self):
        nodes = siblings([("a", None), ("a", ("id", 1))])
        before = list(nodes)
        Rule()(nodes)
        self.assertEqual((nodes, [node.below() for node in nodes]), (before, [[], []]))

    def test_the_nodes_below_do_not_count(self):
        below = siblings([("a", None), ("a", ("id", 1))])
        nodes = [Node("a", ("id", 1), ((5,), ()), below), Node("a", ("id", 1), ((6,), ())), Node("a", None, ((7,), ()))]
        self.assertEqual([slot[2] for slot in Rule()(nodes)], [0, 1, 2])
        self.assertEqual([slot[2] for slot in Rule("plain")(nodes)], [0, 1, 0])


if __name__ == "__main__":
    unittest.main()
