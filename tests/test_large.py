"""Large lists: 300 rows, 8000 nodes, 12 levels (points 21 to 34). All of it ends in a short time."""

import time
import unittest

import expected_screens
from expected_screens import told
from helpers import exactly
from samples import group, one, part
from statestay.drawing import Node, draw
from statestay.matching import Rule, addresses, faults, match
from statestay.screens import Screen
from statestay.shapes import Shape
from statestay.templates import Template

SPEC = ([], {"todo": one({}, {"step": one()})})
PLACES = ("all", "plain")
SHORT = 10


def data(rows, steps=0):
    """Data with so many rows, and so many rows in the inner list of the first."""
    several = [{"id": number, "fields": {}, "lists": {"step": []}} for number in rows]
    for number in range(steps):
        several[0]["lists"]["step"].append({"id": number, "fields": {}, "lists": {}})
    return {"flags": {}, "lists": {"todo": several}}


def wide_items():
    """22 parts and groups for each row, and a part behind them."""
    inside = [part("a", ("id",)), group([part("b"), part("b")]), part("c")] + [part("d")] * 17
    return [("for", "todo", inside), part("end")]


class Quick(unittest.TestCase):
    def setUp(self):
        self.started = time.monotonic()

    def tearDown(self):
        self.assertLess(time.monotonic() - self.started, SHORT)


class Drawings(Quick):
    def test_a_wide_drawing(self):
        template = Template(Shape(*SPEC), wide_items())
        nodes = draw(template, data(range(300)))
        self.assertEqual(sum(node.size() for node in nodes), 300 * 22 + 1)
        self.assertEqual(nodes[-1].owner, ((1,), ()))
        other = draw(template, data(range(299, 0, -1)))
        for place in PLACES:
            rule = Rule(place)
            pairs = match(rule, nodes, other)
            self.assertEqual(len(addresses(rule, nodes)), 300 * 22 + 1)
            # The end stands behind fewer nodes without a key than before.
            self.assertEqual(len(pairs), 299 * 22)
            found = faults(rule, nodes, other)
            self.assertEqual(found[-1], ("mixed", ((0, 0, 19), (298,)), ((0, 0, 19), (1,))))
            self.assertIn(("lost", ((1,), ())), found)
            self.assertEqual(faults(rule, nodes, draw(template, data(range(300)))), [])

    def test_the_most_rows_in_an_inner_list(self):
        items = [("for", "todo", [part("a", ("id",), [("for", "step", [part("b", ("id",))] * 10)])])]
        nodes = draw(Template(Shape(*SPEC), items), data([7], 299))
        self.assertEqual(nodes[0].size(), 1 + 2990)
        self.assertEqual(len(set(addresses(Rule(), nodes).values())), 2991)
        self.assertEqual(nodes[0].below()[-1].owner, ((0, 0, 0, 0, 0, 0, 9), (7, 298)))

    def test_a_screen(self):
        screen = Screen(Template(Shape(*SPEC), wide_items()), Rule("plain"), data(range(300)))
        self.assertEqual(len(screen), 300 * 21 + 1)
        for owner in screen.owners():
            screen[owner] = repr(owner)
        before = exactly(told(screen))
        screen.play([data(range(at, 300)) for at in range(5)])
        self.assertEqual(len(screen), 296 * 21 + 1)
        self.assertEqual(screen[((0, 0, 0), (299,))], repr(((0, 0, 0), (299,))))
        for turn in range(5):
            screen.undo()
        self.assertEqual(exactly(told(screen)), before)


class NodesByHand(Quick):
    def wide(self, order):
        """8000 nodes in one list, with 4 kinds and every second one without a key."""
        return [Node("abcd"[at % 4], None if at % 2 else ("id", at % 50), ((at,), ())) for at in order]

    def test_a_wide_list(self):
        old, new = self.wide(range(8000)), self.wide(range(7999, -1, -1))
        for place in PLACES:
            rule = Rule(place)
            self.assertEqual(len(set(rule(old))), 8000)
            self.assertEqual(len(addresses(rule, old)), 8000)
            plain = [expected_screens.slots(place, expected_screens.plain(nodes[:300])) for nodes in (old, new)]
            self.assertEqual([rule(old)[:300], rule(new)[:300]], plain)
            slots = {slot: node.owner for slot, node in zip(rule(old), old)}
            pairs = [(slots[slot], node.owner) for slot, node in zip(rule(new), new) if slot in slots]
            self.assertEqual(match(rule, old, new), pairs)
            self.assertEqual(len([one for one in faults(rule, old, new) if one[0] == "mixed"]),
                             len([pair for pair in pairs if pair[0] != pair[1]]))
            self.assertEqual(faults(rule, old, self.wide(range(8000))), [])

    def deep(self, shift):
        """7920 nodes in 660 trees of 12 levels with one node each, their owners counted on by a shift."""
        trees = []
        for at in range(660):
            node = None
            for level in range(11, -1, -1):
                number = (at * 12 + level + shift) % 7920
                node = Node("a" if level % 3 else None, ("id", at) if level == 0 else None, ((number,), ()),
                            [node] if node else [])
            trees.append(node)
        return trees

    def test_deep_lists(self):
        old, new = self.deep(0), self.deep(12)
        for place in PLACES:
            rule = Rule(place)
            self.assertEqual([node.size() for node in old], [12] * 660)
            self.assertEqual(max(len(one) for one in addresses(rule, old).values()), 12)
            pairs = match(rule, old, new)
            self.assertEqual(pairs, [(((at,), ()), (((at + 12) % 7920,), ())) for at in range(7920)])
            found = faults(rule, old, new)
            # Of the 12 nodes of a tree 8 are parts, and each of them is lost and mixed.
            self.assertEqual([one[0] for one in found], ["lost"] * 5280 + ["mixed"] * 5280)

    def test_a_bush(self):
        owners = iter(range(10000))

        def bush(levels, many):
            return [Node("a", ("id", at), ((next(owners),), ()), bush(levels - 1, many) if levels > 1 else [])
                    for at in range(many)]

        nodes = bush(12, 2)[:1]
        self.assertEqual(nodes[0].size(), 4095)
        for place in PLACES:
            self.assertEqual(len(match(Rule(place), nodes, nodes)), 4095)
            self.assertEqual(faults(Rule(place), nodes, nodes), [])
            self.assertEqual(len(set(addresses(Rule(place), nodes).values())), 4095)


if __name__ == "__main__":
    unittest.main()
