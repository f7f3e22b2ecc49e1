"""What the document says of drawings, matching and screens, written down a second time and in another way.

A plain node is the tuple (kind, key, owner, nodes) with the list of the plain nodes directly below it.
"""

from expected import around, listed


# Drawings

def drawing(items, data):
    """The plain nodes of spread-out items: all nodes are found first, then put below one another."""
    found = []
    for path, item in listed(items):
        if item[0] in ("part", "group"):
            for place, rows in stands(items, path, data):
                owner = (path, tuple(row["id"] for row in rows))
                kind = item[1] if item[0] == "part" else None
                found.append((place, (kind, key_value(item[-2], rows, len(rows)), owner, [])))
    top = []
    above = []
    for place, node in sorted(found, key=lambda pair: pair[0]):
        while above and place[:len(above[-1][0])] != above[-1][0]:
            above.pop()
        (above[-1][1][3] if above else top).append(node)
        above.append((place, node))
    return top


def stands(items, path, data):
    """Where the item at the path stands in the drawing: pairs of a place, which tells the order, and the rows around."""
    ways = [((), [])]
    for index, number, item in zip(path[::2], path[1::2], around(items, path)):
        if item[0] == "for":
            ways = [(place + (index, at), rows + [row]) for place, rows in ways
                    for at, row in enumerate((rows[-1] if rows else data)["lists"][item[1]])]
        else:
            ways = [(place + (index, number), rows) for place, rows in ways
                    if item[0] != "if" or test_holds(item[1], data, rows) == (number == 0)]
    return [(place + path[-1:], rows) for place, rows in ways]


def key_value(key, rows, many):
    """The value of a key for so many of the rows around."""
    if key is None or key[0] == "word":
        return key
    if key[0] == "up":
        return key_value(key[1], rows, many - 1)
    if key[0] == "both":
        return tuple([key[0]] + [key_value(inner, rows, many) for inner in key[1:]])
    row = rows[many - 1]
    return (key[0], row["id"] if key == ("id",) else row["fields"][key[1]])


def test_holds(test, data, rows):
    wanted = True
    many = len(rows)
    while test[0] in ("not", "up"):
        wanted = wanted != (test[0] == "not")
        many = many - (test[0] == "up")
        test = test[1]
    holder = rows[many - 1] if many else data
    if test[0] == "flag":
        return data["flags"][test[1]] == wanted
    if test[0] == "field":
        return (holder["fields"][test[1]] == test[2]) == wanted
    return (holder["lists"][test[1]] == []) == wanted


def plain(nodes):
    """The plain nodes of a list of nodes."""
    return [(node.kind, node.key, node.owner, plain(node.below())) for node in nodes]


def walked(nodes):
    """All plain nodes of a list, each before the nodes below it."""
    return [one for node in nodes for one in [node] + walked(node[3])]


def parts(nodes):
    return [owner for kind, key, owner, below in walked(nodes) if kind is not None]


# Matching

def slots(place, nodes):
    found = []
    for at, (kind, key, owner, below) in enumerate(nodes):
        before = nodes[:at]
        if key is not None:
            before = [node for node in before if node[1] == key and node[0] == kind]
        elif place == "plain":
            before = [node for node in before if node[1] is None]
        found.append((kind, key, len(before)))
    return found


def addresses(place, nodes, start=()):
    found = {}
    for slot, (kind, key, owner, below) in zip(slots(place, nodes), nodes):
        found[owner] = start + (slot,)
        found.update(addresses(place, below, start + (slot,)))
    return found


def match_by_addresses(place, old, new):
    """The pairs of owners with equal addresses."""
    earlier = {address: owner for owner, address in addresses(place, old).items()}
    later = addresses(place, new)
    return [(earlier[later[node[2]]], node[2]) for node in walked(new) if later[node[2]] in earlier]


def match_in_order(place, old, new):
    """The pairs of owners; each new node in turn takes an old node that is not taken yet."""
    pairs = []
    taken = []
    for at, node in enumerate(new):
        before = old
        if node[1] is None and place == "all":
            before = old[at:at + 1]
        elif node[1] is None:
            many = [other[1] for other in new[:at]].count(None)
            before = [other for other in old if other[1] is None][many:many + 1]
        fitting = [other for other in before if other[:2] == node[:2] and other[2] not in taken]
        if fitting:
            taken.append(fitting[0][2])
            pairs.append((fitting[0][2], node[2]))
            pairs.extend(match_in_order(place, fitting[0][3], node[3]))
    return pairs


def faults(place, old, new):
    pairs = match_by_addresses(place, old, new)
    both = [owner for owner in parts(old) if owner in parts(new)]
    mixed = [pair for pair in pairs if pair[0] != pair[1] and pair[1] in parts(new)]
    return [("lost", owner) for owner in both if (owner, owner) not in pairs] + [("mixed",) + pair for pair in mixed]


# Screens

class Model:
    """What a screen holds, told by the list of all that was done to it. States and focus are kept by addresses."""

    def __init__(self, items, place, data):
        self.items = items
        self.place = place
        self.log = [("show", data)]
        self.replay()

    def replay(self):
        self.nodes = []
        self.texts = {}
        self.at = None
        self.found = []
        for number, deed in enumerate(self.log):
            self.follow(deed, number > 0)

    def do(self, *deed):
        self.log.append(deed)
        self.follow(deed, True)

    def follow(self, deed, counts):
        if deed[0] == "show":
            before = self.nodes
            self.data = deed[1]
            self.nodes = drawing(self.items, self.data)
            table = addresses(self.place, self.nodes)
            self.texts = {table[owner]: self.texts.get(table[owner], "") for owner in parts(self.nodes)}
            self.at = self.at if self.at in self.texts else None
            self.found = faults(self.place, before, self.nodes) if counts else []
        if deed[0] == "set":
            self.texts[addresses(self.place, self.nodes)[deed[1]]] = deed[2]
        if deed[0] == "focus":
            self.at = addresses(self.place, self.nodes).get(deed[1])

    def undo(self):
        """Take back the last show and all that was done after it; False if there is none."""
        shows = [number for number, deed in enumerate(self.log) if deed[0] == "show"]
        if len(shows) == 1:
            return False
        self.log = self.log[:shows[-1]]
        self.replay()
        return True

    def told(self):
        """The values of data, owners(), states(), focus, lost() and mixed(), and the length."""
        table = addresses(self.place, self.nodes)
        owners = parts(self.nodes)
        focus = [owner for owner in owners if table[owner] == self.at]
        return [self.data, owners, {owner: self.texts[table[owner]] for owner in owners}, (focus + [None])[0],
                [fault[1] for fault in self.found if fault[0] == "lost"],
                [fault[1:] for fault in self.found if fault[0] == "mixed"], len(owners)]


def told(screen):
    """The same values, told by a screen."""
    return [screen.data, screen.owners(), screen.states(), screen.focus, screen.lost(), screen.mixed(), len(screen)]
