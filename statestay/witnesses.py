"""Witnesses: data that show what a study found."""

from statestay.copies import fresh
from statestay.levels import nodes_on
from statestay.worlds import body_of, surroundings

# Rows that can have any id are numbered from here on; the ids that count are below.
FIRST_ID = 10


def data_for(study, case, ids, indexes):
    """Data in whose drawing the node of the case, with these ids around it, has these indexes at its levels."""
    shape = study.template.shape
    names = study.template.rows_around(case.path)
    around = surroundings(shape, names, ids, case.world)
    chosen = {}
    for path, index in zip(nodes_on(study.template, case.path), indexes):
        level = study.level(path)
        start, several = study.ahead(level, around[:len(level.names) + 1], case.world)
        chosen.update(rows_that_add(several, index - start))
    lists = filled_lists(shape, names, around, case.world, chosen)
    return fresh({"flags": around[0]["flags"], "lists": lists})


def filled_lists(shape, names, around, world, chosen, deep=0):
    """The lists of the data, or of the row around that is so deep, with the rows that are chosen."""
    lists = {}
    held = shape.inner(names[deep - 1]) if deep > 0 else shape.outer()
    for name in held:
        rows = [whole_row(shape, name, at, number, body) for at, (number, body) in enumerate(chosen.get(name, []))]
        if name in names:
            inside = filled_lists(shape, names, around, world, chosen, deep + 1)
            rows.append({**around[deep + 1], "lists": inside})
        elif name not in chosen and not world.get(("empty", name), True):
            rows.append(any_row(shape, name))
        lists[name] = rows
    return lists


def whole_row(shape, name, at, number, body):
    """A row that stands at this index, with this id or, for None, any other."""
    lists = {inner: [any_row(shape, inner)] if rows else [] for inner, rows in body["lists"].items()}
    return {"id": FIRST_ID + at if number is None else number, "fields": body["fields"], "lists": lists}


def any_row(shape, name):
    """A row of the list."""
    return {"id": FIRST_ID, **body_of(shape, name, {}, True)}


def rows_that_add(several, total):
    """For each of several lists some rows, that add so much together; as few rows as possible."""
    found = {0: (0, {})}
    for ahead in several:
        more = {}
        for added, rows in ways_to_add(ahead, total).items():
            for before, (many, chosen) in found.items():
                longer = many + len(rows)
                if before + added not in more or longer < more[before + added][0]:
                    more[before + added] = (longer, {**chosen, ahead.name: rows})
        found = more
    return found[total][1]


def ways_to_add(ahead, total):
    """A dict from all that rows of a list can add, up to a total, to rows that do; as few rows as possible.

    A row is given as a pair of its id, or None, and its body.
    """
    starts = [(0, [])]
    for number, added in ahead.single:
        starts = starts + [(before + many, rows + [(number, body)]) for before, rows in starts
                           for many, body in added.items()]
    found = {}
    layer = {}
    length = 0
    # Each layer has one row more than the one before it.
    while layer or length <= max(ahead.least, len(ahead.single)):
        for before, rows in starts:
            if len(rows) == length:
                layer.setdefault(before, rows)
        if length >= ahead.least:
            layer = {before: rows for before, rows in layer.items() if before <= total and before not in found}
            found = {**found, **layer}
        layer = {before + many: rows + [(None, body)] for before, rows in layer.items()
                 for many, body in ahead.others.items()}
        length += 1
    return found
