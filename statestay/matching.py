"""Matching: which new node goes with which old node, and what goes wrong with it."""

from statestay.drawing import part_owners
from statestay.errors import InvalidRule


class Rule:
    """What the nodes without a key are counted among: all their siblings, or those without a key."""

    ALL = "all"
    PLAIN = "plain"

    def __init__(self, place="all"):
        """Keep the place, one of two words."""
        if place not in (Rule.ALL, Rule.PLAIN):
            raise InvalidRule(place)
        self.place = place

    def __eq__(self, other):
        """Whether the other is a rule with the same place."""
        return isinstance(other, Rule) and self.place == other.place

    def __call__(self, nodes):
        """The list of the slots of the nodes of a list of siblings."""
        slots = []
        # How many nodes there were so far of each kind and key; under None, of those without a key.
        counts = {}
        for index, node in enumerate(nodes):
            alike = None if node.key is None else (node.kind, node.key)
            earlier = counts.get(alike, 0)
            counts[alike] = earlier + 1
            if alike is None and self.place == Rule.ALL:
                earlier = index
            slots.append((node.kind, node.key, earlier))
        return slots


def addresses(rule, nodes):
    """A dict from the owners of all nodes to their addresses."""
    return dict(addressed(rule, nodes, ()))


def addressed(rule, nodes, start):
    """The pairs of owners and addresses of all nodes; the addresses begin with the start."""
    pairs = []
    for slot, node in zip(rule(nodes), nodes):
        address = start + (slot,)
        pairs.append((node.owner, address))
        pairs.extend(addressed(rule, node.below(), address))
    return pairs


def match(rule, old, new):
    """The list of the pairs of owners of all matched nodes, in the order of the new list."""
    return [(before.owner, after.owner) for before, after in matched(rule, old, new)]


def matched(rule, old, new):
    """The pairs of matched nodes, in the order of the new list."""
    pairs = []
    table = {slot: node for slot, node in zip(rule(old), old)}
    for slot, after in zip(rule(new), new):
        if slot in table:
            before = table[slot]
            pairs.append((before, after))
            pairs.extend(matched(rule, before.below(), after.below()))
    return pairs


def faults(rule, old, new):
    """The faults of a change from the old list of nodes to the new one."""
    pairs = [(before.owner, after.owner) for before, after in matched(rule, old, new) if after.kind is not None]
    partners = dict(pairs)
    staying = {owner: True for owner in part_owners(new)}
    # A part without a partner has the partner None here, which is no owner.
    lost = [("lost", owner) for owner in part_owners(old) if owner in staying and partners.get(owner) != owner]
    return lost + [("mixed", before, after) for before, after in pairs if before != after]
