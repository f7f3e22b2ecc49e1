"""The levels of a node: the nodes that it stands in, outermost first, and the node itself."""

from statestay.questions import answers, asked_by_items, asked_by_key, asked_by_test, is_about, is_open
from statestay.trees import lists_of

NODES = ("part", "group")


class Level:
    """A node of a template among its siblings, with all that its slot depends on."""

    def __init__(self, template, path):
        """Find what stands ahead of the node at the path and around it, up to the next node that it stands in."""
        item, self.names = template.table[path]
        self.kind = item[1] if item[0] == "part" else None
        # A part and a group have their key directly ahead of their items.
        self.key = item[-2]
        # Pairs of an item that stands ahead and the number of the rows around that item.
        self.before = []
        # Triples of a test, the number of the rows around it, and whether it must hold.
        self.conditions = []
        # The for that the node stands in among its siblings, or None.
        self.passing = None
        self.look_around(template, path)
        self.asked = questions_of(template.shape, self)
        # What is answered for another level about a list ahead counts, too.
        self.atoms = list(answers(template.shape, self.asked)) + [("empty", name) for name in lists_ahead(self.before)]

    def look_around(self, template, path):
        """Note what stands ahead of the item at the path and around it."""
        many = len(template.table[path][1])
        item = template.table[path[:-2]][0] if len(path) > 1 else None
        items = template.tree if item is None else lists_of(item)[path[-2]]
        self.before = [(one, many) for one in items[:path[-1]]] + self.before
        if item is None or item[0] in NODES:
            return
        if item[0] == "if":
            self.conditions.append((item[1], many, path[-2] == 0))
        else:
            self.passing = item
        self.look_around(template, path[:-2])


def questions_of(shape, level):
    """The questions about the data and the rows around that the slot of a level depends on."""
    keyed = level.key is not None
    found = asked_by_key(level.key, level.names)
    for test, many, wanted in level.conditions:
        found.extend(asked_by_test(test, level.names[:many]))
    for item, many in level.before:
        found.extend(asked_by_items([item], level.names[:many], keyed))
    if level.passing is not None:
        # What is asked of the earlier rows of this for is not asked of the row around.
        for atom, word in asked_by_items(level.passing[2], level.names, keyed):
            if not is_about(shape, atom, level.passing[1]):
                found.append((atom, word))
    return [(atom, word) for atom, word in found if is_open(shape, atom, level.names)]


def lists_ahead(before):
    """The names of the lists that fors among the items ahead go through, also those in their ifs."""
    found = []
    for item, many in before:
        if item[0] == "for":
            found.append(item[1])
        elif item[0] == "if":
            found.extend(lists_ahead([(one, many) for one in item[2] + item[3]]))
    return found


def nodes_on(template, path):
    """The paths of the nodes that the item at the path stands in, outermost first, and of the item if it is a node."""
    starts = [path[:end] for end in range(1, len(path) + 1, 2)]
    return [start for start in starts if template.table[start][0][0] in NODES]
