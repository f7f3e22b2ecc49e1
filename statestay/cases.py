"""Cases: the ways in which a node can stand in drawings, and when two of them have an address in common."""

from statestay.sums import least_in


class Case:
    """One way in which a node can stand in a drawing."""

    def __init__(self, path, ids, world, slots):
        """Keep the path, the ids of the rows around, the answers, and the slots of the levels."""
        self.path = path
        self.ids = ids
        self.world = world
        # The kinds and key values of the levels, and the sets of the indexes that they can have.
        self.labels = tuple([label for label, indexes in slots])
        self.indexes = tuple([indexes for label, indexes in slots])
        # The ids of the labels in the order in which they come first, and the labels with the places of the ids there.
        self.order = []
        self.form = tuple([(kind, numbered(value, self.order)) for kind, value in self.labels])

    def least_indexes(self):
        """The least index of each level."""
        return [least_in(found) for found in self.indexes]


def numbered(value, order):
    """The key value with the place in the order for each id; what is not yet in the order is put in at the end."""
    if value is None or value[0] in ("word", "field"):
        return value
    if value[0] == "both":
        first = numbered(value[1], order)
        return ("both", first, numbered(value[2], order))
    if value[1] not in order:
        order.append(value[1])
    return ("id", order.index(value[1]))


def ids_in(value):
    """The different ids in a key value."""
    found = []
    numbered(value, found)
    return found


def ids_for(names, asked):
    """Ids for the rows around, in all ways that count; the questions are those of all that a node depends on."""
    several = [tuple(list(range(1, len(names) + 1)))]
    # Whether two ids are equal counts only where the ids of two rows are asked for.
    if len(names) == 2 and len({atom for atom, word in asked if atom[0] == "id"}) > 1:
        several.append((1, 1))
    return several


def ids_to_meet(first, second):
    """Ids for a second case with labels of the same form, with which it has the labels of the first and another owner;
    None if there are none."""
    places = {number: at for at, number in enumerate(second.order)}
    # What the labels do not have can have other ids than all in the first case.
    ids = tuple([first.order[places[number]] if number in places else number + 2 for number in second.ids])
    return None if (first.path, first.ids) == (second.path, ids) else ids


def common_indexes(first, second):
    """The least index of each level that two cases with as many levels have in common; None if a level has none."""
    common = [one & other for one, other in zip(first.indexes, second.indexes)]
    return None if 0 in common else [least_in(found) for found in common]
