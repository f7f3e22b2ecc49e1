"""Drawings: the nodes that a template makes from data."""

from statestay.around import holds, value_of
from statestay.shapes import check


class Node:
    """A part, which has a kind, or a group, whose kind is None."""

    def __init__(self, kind, key, owner, nodes=()):
        """Keep what is given, and a copy of the list of the nodes directly below."""
        self.kind = kind
        self.key = key
        self.owner = owner
        self.inside = tuple(nodes)

    def below(self):
        """The list of the nodes directly below."""
        return list(self.inside)

    def walk(self):
        """Yield this node and all nodes below it, each node before the nodes below it."""
        yield self
        for node in self.inside:
            yield from node.walk()

    def size(self):
        """The number of this node and all nodes below it."""
        return len(list(self.walk()))


def draw(template, data):
    """The list of the nodes that the template makes from the data."""
    check(template.shape, data)
    return drawn(template.tree, (), [data])


def drawn(items, start, around):
    """The nodes that a list of items makes; the paths of the items begin with the start."""
    several = [nodes_of(item, start + (index,), around) for index, item in enumerate(items)]
    return joined(several)


def nodes_of(item, path, around):
    """The nodes that stand in the place of an item."""
    if item[0] == "if":
        number = 0 if holds(item[1], around) else 1
        return drawn(item[2 + number], path + (number,), around)
    start = path + (0,)
    if item[0] == "for":
        return joined([drawn(item[2], start, around + [row]) for row in around[-1]["lists"][item[1]]])
    kind = item[1] if item[0] == "part" else None
    ids = tuple([row["id"] for row in around[1:]])
    # A part and a group have their key directly ahead of their items.
    return [Node(kind, value_of(item[-2], around), (path, ids), drawn(item[-1], start, around))]


def joined(several):
    """One list of the nodes of several lists."""
    return [node for nodes in several for node in nodes]


def part_owners(nodes):
    """The owners of the parts in a list of nodes at all levels, each node before the nodes below it."""
    return [node.owner for top in nodes for node in top.walk() if node.kind is not None]
