"""What the document says of repairs, written down a second time and in another way."""

import itertools

import expected
from expected_verdicts import node_paths
from statestay.matching import Rule
from statestay.right import is_right
from statestay.shapes import Shape
from statestay.templates import Template


def full_key(items, path):
    """The full key of a node of spread-out items."""
    letter = chr(ord("a") + sorted(node_paths(items)).index(path))
    ids = ["id"] + ["up id"] * (len(expected.rows_around(items, path)) == 2)
    key = ("word", letter)
    for number in range(len(expected.rows_around(items, path))):
        key = ("both", key, ("up", ("id",)) if ids[number] == "up id" else ("id",))
    return key


def candidates(items):
    """All repairs of spread-out items."""
    forms = {"part": "key", "group": "key", "if": "wrap", "for": "wrap"}
    return sorted((forms[item[0]], path) for path, item in expected.listed(items))


def repaired(items, chosen):
    """The items with the repairs, which are done one after the other: the last item in the order of paths first, so
    that no path changes before its turn."""
    keys = {path: full_key(items, path) for form, path in chosen if form == "key"}
    for form, path in sorted(chosen, key=lambda repair: repair[1], reverse=True):
        items = replaced(items, path, lambda item: with_repair(item, form, keys.get(path)))
    return items


def with_repair(item, form, key):
    if form == "wrap":
        return ("group", None, [item])
    return ("part", item[1], key, item[3]) if item[0] == "part" else ("group", key, item[2])


def replaced(items, path, change):
    items = list(items)
    if len(path) == 1:
        items[path[0]] = change(items[path[0]])
    else:
        lists = expected.inner_lists(items[path[0]])
        lists[path[1]] = replaced(lists[path[1]], path[2:], change)
        items[path[0]] = expected.rebuilt(items[path[0]], lists)
    return items


def makes_right(spec, items, place, chosen):
    after = repaired(items, chosen)
    if expected.template_error(spec, after, None) is not None:
        return False
    return is_right(Template(Shape(*spec), after), Rule(place)) is None


def least_sets(spec, items, place, most):
    """All least sets of at most so many repairs: all sets are tried, then those that hold a smaller one are left out."""
    every = [chosen for many in range(most + 1) for chosen in itertools.combinations(candidates(items), many)]
    right = [chosen for chosen in every if makes_right(spec, items, place, chosen)]
    return [chosen for chosen in right if not [other for other in right if set(other) < set(chosen)]]
