"""Repairs: keys and groups that make a template right."""

from statestay.errors import InvalidRepair, InvalidTemplate, LimitExceeded, NoItem
from statestay.levels import NODES
from statestay.right import is_right
from statestay.templates import Template
from statestay.trees import lists_of, with_lists

LETTERS = "abcdefghijklmnopqrstuvwx"
MOST_CANDIDATES = 14
MOST_CHOSEN = 3


def full_key(template, path):
    """The full key of the part or the group at the path."""
    nodes = node_paths(template)
    if path not in nodes:
        raise NoItem(path)
    key = ("word", LETTERS[nodes.index(path)])
    number = ("id",)
    for name in template.rows_around(path):
        key = ("both", key, number)
        number = ("up", number)
    return key


def node_paths(template):
    """The paths of the parts and the groups, ascending."""
    return sorted([path for path in template.paths() if template.item_at(path)[0] in NODES])


def candidates(template):
    """All repairs of the template, ascending."""
    found = []
    for path in template.paths():
        form = "key" if template.item_at(path)[0] in NODES else "wrap"
        found.append((form, path))
    return sorted(found)


def repaired(template, chosen):
    """A template in which all these repairs are done at once."""
    several = candidates(template)
    for repair in chosen:
        if repair not in several:
            raise InvalidRepair(repair)
    keys = {path: full_key(template, path) for form, path in chosen if form == "key"}
    wrapped = {path: True for form, path in chosen if form == "wrap"}
    return Template(template.shape, with_repairs(template.spread(), (), keys, wrapped))


def with_repairs(items, start, keys, wrapped):
    """The items, whose paths begin with the start, with these keys, and in groups where they are wrapped."""
    found = []
    for index, item in enumerate(items):
        path = start + (index,)
        several = lists_of(item)
        several = [with_repairs(inner, path + (at,), keys, wrapped) for at, inner in enumerate(several)]
        item = with_lists(item, several)
        if path in keys:
            # A part and a group have their key directly ahead of their items.
            item = item[:-2] + (keys[path],) + item[-1:]
        found.append(("group", None, [item]) if path in wrapped else item)
    return found


def repairs(template, rule):
    """All least sets of at most three repairs that make the template right; shorter ones first, then ascending."""
    several = few_candidates(template)
    found = []
    for many in range(MOST_CHOSEN + 1):
        found = found + least_sets(template, rule, several, many, found)
    return found


def fewest(template, rule):
    """The number of repairs in the shortest of these sets, or None if there is none."""
    several = few_candidates(template)
    for many in range(MOST_CHOSEN + 1):
        if least_sets(template, rule, several, many, []):
            return many
    return None


def few_candidates(template):
    """All repairs of the template, if they are not too many."""
    several = candidates(template)
    if len(several) > MOST_CANDIDATES:
        raise LimitExceeded(MOST_CANDIDATES)
    return several


def least_sets(template, rule, several, many, shorter):
    """The sets of so many of the repairs that make right, ascending, but none that holds a shorter one."""
    return [chosen for chosen in sets_of(several, many)
            if not any([holds_all(chosen, other) for other in shorter]) and makes_right(template, rule, chosen)]


def sets_of(several, many):
    """All sets of so many of several values, as tuples; all in the order of the values."""
    if many == 0:
        return [()]
    return [(one,) + rest for at, one in enumerate(several) for rest in sets_of(several[at + 1:], many - 1)]


def holds_all(chosen, other):
    """Whether all repairs of the other set are chosen."""
    return all([repair in chosen for repair in other])


def makes_right(template, rule, chosen):
    """Whether these repairs can be done and make the template right."""
    try:
        result = repaired(template, list(chosen))
    except InvalidTemplate:
        return False
    return is_right(result, rule) is None
