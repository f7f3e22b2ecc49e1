"""What the document says of shifts and moves, written down a second time and in another way."""

import itertools

import expected_screens


def shifted(labels, shift):
    """The labels after one shift, or None if it cannot be done."""
    if type(shift) is not tuple or not shift or shift[0] not in ("remove", "move", "insert"):
        return None
    if len(shift) != {"remove": 2, "move": 3, "insert": 3}[shift[0]]:
        return None
    every = range(len(labels) + (shift[0] == "insert"))
    if type(shift[1]) is not int or shift[1] not in every:
        return None
    left, right = labels[:shift[1]], labels[shift[1]:]
    if shift[0] == "remove":
        return left + right[1:]
    if shift[0] == "insert":
        return None if [one for one in labels if one == shift[2]] else left + [shift[2]] + right
    if type(shift[2]) is not int or shift[2] not in every:
        return None
    rest = left + right[1:]
    return rest[:shift[2]] + right[:1] + rest[shift[2]:]


def all_shifted(labels, several):
    """The labels after several shifts; the first shift that cannot be done, and all before it are left to be seen."""
    for shift in several:
        after = shifted(labels, shift)
        if after is None:
            return ("InvalidShift", shift)
        labels = after
    return labels


def longest_order(old, new):
    """The length of the longest sequence that stands in the same order in both lists."""
    row = [0] * (len(new) + 1)
    for one in old:
        before = row
        row = [0]
        for at, other in enumerate(new):
            row.append(before[at] + 1 if one == other else max(before[at + 1], row[-1]))
    return row[-1]


def moves_needed(old, new):
    both = [one for one in old if one in new]
    return len(both) - longest_order(both, [one for one in new if one in old])


def fewest_moves(many):
    """A dict from each order of so many integers to the least number of moves from the ascending order, by a search."""
    start = tuple(range(many))
    found = {start: 0}
    layer = [start]
    while layer:
        after = []
        for order in layer:
            for at, to in itertools.product(range(many), repeat=2):
                moved = tuple(shifted(list(order), ("move", at, to)))
                if moved not in found:
                    found[moved] = found[order] + 1
                    after.append(moved)
        layer = after
    return found


def fits(old, new, several):
    """Whether several shifts are as point 36 asks for."""
    kinds = [shift[0] for shift in several]
    wanted = {
        "remove": len([one for one in old if one not in new]), "insert": len([one for one in new if one not in old]),
        "move": moves_needed(old, new),
    }
    return all(kinds.count(kind) == many for kind, many in wanted.items()) and all_shifted(old, several) == new


def two_lists(place, old, new):
    """The pairs of lists that point 37 compares, for lists of plain nodes: owners, and the slots in both lists."""
    by_owner = [{node[2]: node for node in expected_screens.walked(nodes)} for nodes in (old, new)]
    told = [(None, None, old, new)]
    for before, after in expected_screens.match_by_addresses(place, old, new):
        told.append((before, after, by_owner[0][before][3], by_owner[1][after][3]))
    return [(first, second, expected_screens.slots(place, left), expected_screens.slots(place, right))
            for first, second, left, right in told]
