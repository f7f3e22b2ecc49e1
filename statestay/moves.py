"""Moves: shifts that lead from one list of labels to another, and from one drawing to another."""

from statestay.copies import fresh
from statestay.errors import InvalidShift
from statestay.forms import has_form, is_integer
from statestay.labels import longest_rising, mark_of
from statestay.matching import matched

SHIFTS = (("remove", 2), ("move", 3), ("insert", 3))


def done(labels, several):
    """The list of labels after several shifts."""
    found = [fresh(label) for label in labels]
    marks = {mark_of(label): True for label in found}
    for shift in several:
        if not can_be_done(shift, len(found), marks):
            raise InvalidShift(shift)
        if shift[0] == "insert":
            found.insert(shift[1], fresh(shift[2]))
            marks[mark_of(shift[2])] = True
        elif shift[0] == "move":
            found.insert(shift[2], found.pop(shift[1]))
        else:
            del marks[mark_of(found.pop(shift[1]))]
    return found


def can_be_done(shift, many, marks):
    """Whether this is a shift of a list of so many labels, which have these marks."""
    if not has_form(shift, SHIFTS):
        return False
    if shift[0] == "insert":
        return is_integer(shift[1], 0, many) and mark_of(shift[2]) not in marks
    return all([is_integer(index, 0, many - 1) for index in shift[1:]])


def shifts(old, new):
    """A list of shifts, with as few moves as possible, that lead from the old labels to the new ones."""
    goals = goals_of(new)
    marks = [mark_of(label) for label in old]
    kept = {mark: True for mark in marks}
    # From the last one on, so that no index changes before its turn.
    gone = [("remove", index) for index in range(len(old) - 1, -1, -1) if marks[index] not in goals]
    # In the order of the new labels, so that each has its index as soon as it stands behind those before it.
    added = [("insert", index, fresh(new[index])) for mark, index in goals.items() if mark not in kept]
    return gone + least_shifts([goals[mark] for mark in marks if mark in goals]) + added


def least_shifts(ranks):
    """The moves that put these different integers in ascending order."""
    staying = {rank: True for rank in longest_rising(ranks)}
    row = list(ranks)
    several = []
    # Where the rank before this one stands: all up to it are in order, those that stay and are behind it, too.
    place = -1
    for rank in sorted(ranks):
        if rank in staying:
            place = row.index(rank, place + 1)
            continue
        index = row.index(rank)
        row.pop(index)
        place = place if index < place else place + 1
        row.insert(place, rank)
        several.append(("move", index, place))
    return several


def least_moves(old, new):
    """The number of moves that shifts needs."""
    goals = goals_of(new)
    marks = [mark_of(label) for label in old]
    ranks = [goals[mark] for mark in marks if mark in goals]
    return len(ranks) - len(longest_rising(ranks))


def goals_of(new):
    """A dict from the marks of labels to their indexes, in the order of the labels."""
    return {mark_of(label): index for index, label in enumerate(new)}


def moves(rule, old, new):
    """For the two top lists and for each two matched nodes: the owners, and the shifts of the slots below them."""
    told = [(None, None, shifts(rule(old), rule(new)))]
    for before, after in matched(rule, old, new):
        told.append((before.owner, after.owner, shifts(rule(before.below()), rule(after.below()))))
    return told


def cost(rule, old, new):
    """The least moves in all, and the numbers of the new and of the old nodes that are not matched."""
    pairs = matched(rule, old, new)
    moved = least_moves(rule(old), rule(new))
    for before, after in pairs:
        moved += least_moves(rule(before.below()), rule(after.below()))
    return (moved, sum([node.size() for node in new]) - len(pairs), sum([node.size() for node in old]) - len(pairs))
