"""What the document says of right templates and verdicts, read off drawings of many data."""

import random

import chance
import expected
import expected_screens
from statestay.shapes import Shape, all_data, count_data


def small_data(spec):
    """All data with at most two rows in each list; if they are too many, as many as dice choose."""
    shape = Shape(*spec)
    for ids in (3, 2):
        if count_data(shape, 2, ids=ids) <= 1200:
            return list(all_data(shape, 2, ids=ids))
    dice = random.Random(2)
    return [chance.data(dice, spec, 2, 3) for turn in range(800)]


def larger_data(dice, spec, many):
    """Data with up to 9 rows in each list."""
    return [chance.data(dice, spec, dice.choice([3, 4, 6, 9]), dice.choice([9, 10, 40]))
            for turn in range(many)]


def addresses(items, place, data):
    """A dict from the owners of all nodes to pairs of a kind and an address."""
    nodes = expected_screens.drawing(items, data)
    kinds = {node[2]: node[0] for node in expected_screens.walked(nodes)}
    return {owner: (kinds[owner], address)
            for owner, address in expected_screens.addresses(place, nodes).items()}


def seen(items, place, several):
    """The paths of the lost parts, the pairs of paths of the mixed parts, and the pairs of path and index, that can be
    seen between any two of several data."""
    by_owner = {}
    by_address = {}
    indexes = set()
    for data in several:
        for owner, (kind, address) in addresses(items, place, data).items():
            indexes.add((owner[0], address[-1][2]))
            if kind is not None:
                by_owner.setdefault(owner, set()).add(address)
                by_address.setdefault(address, set()).add(owner)
    lost = {owner[0] for owner, found in by_owner.items() if len(found) > 1}
    mixed = {(one[0], other[0]) for found in by_address.values() if len(found) > 1
             for one in found for other in found if one != other}
    return lost, mixed, indexes


def few_rows(lists):
    """Whether each list has at most two rows, also each inner one."""
    return all(len(rows) <= 2 and all(few_rows(row["lists"]) for row in rows) for rows in lists.values())


def faults(items, place, pair):
    """The faults between two data."""
    return expected_screens.faults(place, *[expected_screens.drawing(items, data) for data in pair])


def fault_paths(items, place, pair):
    """The faults between two data as the word and the paths."""
    return {fault[:1] + tuple(owner[0] for owner in fault[1:]) for fault in faults(items, place, pair)}


def part_paths(items):
    return [path for path, item in expected.listed(items) if item[0] == "part"]


def node_paths(items):
    return [path for path, item in expected.listed(items) if item[0] in ("part", "group")]


def wrong_paths(items):
    """Paths of no node: those of ifs and fors, and some that are too short, too long or have a number changed."""
    every = [path for path, item in expected.listed(items)]
    found = [(), (len(items),), (-1,), (0, 0), (0, 2, 0), (99,)]
    for path in every:
        found += [path[:-1], path + (0,), path + (1, 0), path + (0, 0, 0), path[:-1] + (path[-1] + 1,), path * 2]
        found += [path[:-1] + (path[-1] - 1,)] + [path[:-2] + (1 - number, path[-1]) for number in path[-2:-1]]
    return sorted(set(found) - set(node_paths(items)))
