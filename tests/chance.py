"""Templates, data and lists of nodes that dice choose. The dice are a random.Random with a seed of its own."""

import copy

import expected
from samples import one, rich
from statestay.drawing import Node

KINDS = ["a", "b", "row"]
KEYS = [None, None, ("id", 1), ("id", 2), ("word", "a"), ("field", "a"), ("both", ("id", 1), ("word", "a"))]


def specs():
    """Specs for which templates with all forms of items can be made."""
    small = ["on"], {"todo": one({"mark": ("new", "old")}, {"step": one({"mark": ("old", "odd")})})}
    return [rich(), small, ([], {"todo": one({}, {"step": one()}), "menu": one()})]


# Templates

def key(dice, spec, rows, most=4):
    """A key that may stand where these rows are around, nested at most so deep."""
    words = sorted(expected.fields_here(spec, rows))
    forms = ["word"] + ["id", "id"] * bool(rows) + ["field"] * bool(words)
    if most > 1:
        forms += ["both"] + ["up", "up"] * bool(rows)
    form = dice.choice(forms)
    if form == "both":
        return (form, key(dice, spec, rows, most - 1), key(dice, spec, rows, most - 1))
    if form == "up":
        return (form, key(dice, spec, rows[:-1], most - 1))
    return {"word": ("word", dice.choice(["w", "x"])), "id": ("id",), "field": ("field", dice.choice(words or [""]))}[form]


def test(dice, spec, rows, most=4):
    """A test that may stand where these rows are around, nested at most so deep; None if there is none."""
    fields = expected.fields_here(spec, rows)
    lists = expected.lists_here(spec, rows)
    forms = ["flag"] * len(spec[0]) + ["field"] * len(fields) + ["empty"] * len(lists)
    if most > 1:
        forms += ["not"] + ["up"] * bool(rows)
    form = dice.choice(forms) if forms else None
    if form in ("not", "up"):
        inner = test(dice, spec, rows if form == "not" else rows[:-1], most - 1)
        return inner and (form, inner)
    if form == "flag":
        return (form, dice.choice(list(spec[0])))
    if form == "field":
        field = dice.choice(sorted(fields))
        return (form, field, dice.choice(fields[field]))
    return form and (form, dice.choice(sorted(lists)))


def some_items(dice, spec, left, room, rows=(), bare=False, deep=1):
    """Items that may stand where these rows are around. The lists in left are left to be gone through, and room has
    a number for each item that there is still room for."""
    items = []
    for at in range(min(len(room), dice.choice([0, 1, 1, 2, 3] if deep > 1 else [2, 3, 4]))):
        if not room:
            break
        room.pop()
        free = [name for name in expected.lists_here(spec, rows) if name in left and not bare]
        form = dice.choice(["part"] * 3 + ["group", "if"] + ["for"] * 4 * bool(free))
        chosen = dice.choice([None, key(dice, spec, rows)])
        if form == "for":
            name = dice.choice(free)
            left.remove(name)
            items.append((form, name, some_items(dice, spec, left, room, rows + (name,), True, deep + 1)))
        elif form == "if":
            asked = test(dice, spec, rows)
            several = [some_items(dice, spec, left, room, rows, bare, deep + 1) for number in range(2)]
            items.extend([(form, asked) + tuple(several)] if asked else several[0])
        else:
            inside = some_items(dice, spec, left, room, rows, False, deep + 1) if deep < 6 else []
            items.append((form, dice.choice(KINDS), chosen, inside) if form == "part" else (form, chosen, inside))
    return items


def items(dice, spec):
    """Items that a template of the spec may have, some of them gone through by fors."""
    while True:
        found = some_items(dice, spec, list(expected.all_lists(spec)), list(range(24)))
        several = [item for path, item in expected.listed(found)]
        if expected.template_error(spec, found, None) is None and "for" in [item[0] for item in several]:
            return found


# Data

def data(dice, spec, most=3, ids=4):
    """Data with at most so many rows in each list and ids below ids."""
    flags = {flag: dice.random() < 0.5 for flag in spec[0]}
    return {"flags": flags, "lists": {name: rows(dice, spec[1][name], most, ids) for name in spec[1]}}


def rows(dice, shape, most, ids):
    return [row(dice, shape, number, most, ids) for number in dice.sample(range(ids), dice.randint(0, most))]


def row(dice, shape, number, most, ids):
    fields = {field: dice.choice(words) for field, words in shape["fields"].items()}
    lists = {name: rows(dice, shape["inner"][name], most, ids) for name in shape["inner"]}
    return {"id": number, "fields": fields, "lists": lists}


def changed(dice, spec, before):
    """The data with some rows left out, added and put in another order."""
    after = copy.deepcopy(before)
    fresh = data(dice, spec)
    for flag in spec[0]:
        after["flags"][flag] = dice.choice([before, fresh])["flags"][flag]
    for name, several in after["lists"].items():
        what = dice.random()
        several += [one for one in fresh["lists"][name] if one["id"] not in [two["id"] for two in several]]
        if what < 0.4:
            dice.shuffle(several)
        if what > 0.3:
            after["lists"][name] = [one for one in several if dice.random() < 0.7]
    return after


# Nodes made by hand

def forest(dice, owners, most=4, deep=3):
    """A list of nodes with several levels; it takes its owners out of a list."""
    nodes = []
    for at in range(dice.randint(0, most)):
        if not owners:
            break
        owner = owners.pop(dice.randrange(len(owners)))
        below = forest(dice, owners, most, deep - 1) if deep > 1 else []
        nodes.append(Node(dice.choice([None, "a", "b"]), dice.choice(KEYS), owner, dice.choice([list, tuple])(below)))
    return nodes


def some_owners(many):
    """So many owners with paths and ids of several lengths."""
    return [((at // 3,) + (0, at) * (at % 3), tuple(range(at % 2))) for at in range(many)]
