"""What the document says of deeds, written down a second time and in another way."""

import copy
import itertools

import expected

PARTS = {
    "append": ("where", "row"), "cut": ("where",), "insert": ("where", "index", "row"), "remove": ("where", "index"),
    "move": ("where", "index", "target"), "field": ("where", "index", "field", "word"), "flag": ("flag",),
}


def wheres(spec, data):
    """A dict from all wheres of the data to pairs of a list shape and the rows."""
    found = {}
    for name, rows in data["lists"].items():
        found[(name,)] = (spec[1][name], rows)
        for row in rows:
            for inner, steps in row["lists"].items():
                found[(name, row["id"], inner)] = (spec[1][name]["inner"][inner], steps)
    return found


def same(value, other):
    """Whether two values are equal and True and 1 are told apart, at all depths."""
    return repr(value) == repr(other)


def lookup(table, value):
    """The entry of a dict whose key is the very same as the value, or None."""
    return next((table[key] for key in table if same(key, value)), None)


def deed_error(spec, data, deed):
    """What apply raises, or None."""
    return expected.data_error(spec, data) or deed_reason(spec, data, deed)


def deed_reason(spec, data, deed):
    if type(deed) is not tuple or not deed or type(deed[0]) is not str or deed[0] not in PARTS:
        return ("InvalidDeed", "form")
    if len(deed) != len(PARTS[deed[0]]) + 1:
        return ("InvalidDeed", "form")
    parts = dict(zip(PARTS[deed[0]], deed[1:]))
    for reason, holds in reasons(spec, data, deed[0], parts):
        if not holds:
            return ("InvalidDeed", reason)
    return None


def reasons(spec, data, sort, parts):
    """Pairs of a reason and whether it does not apply; a later one may be asked only if the ones before hold."""
    if sort == "flag":
        yield "flag", type(parts["flag"]) is str and parts["flag"] in spec[0]
        return
    found = lookup(wheres(spec, data), parts["where"])
    yield "where", found is not None
    shape, rows = found
    if sort == "cut":
        yield "index", rows != []
    for name in ("index", "target"):
        if name in parts:
            yield "index", type(parts[name]) is int and parts[name] in range(len(rows) + (sort == "insert"))
    if "row" in parts:
        yield "row", row_fits(shape, data, rows, parts["row"])
    if sort == "field":
        words = lookup(shape["fields"], parts["field"])
        yield "field", words is not None
        yield "word", type(parts["word"]) is str and parts["word"] in words


def row_fits(shape, data, rows, row):
    """Whether the row can be added: data with it alone are right, and it has an id of its own."""
    if expected.data_error(([], {"list": shape}), {"flags": {}, "lists": {"list": [row]}}) is not None:
        return False
    many = expected.count_rows({"lists": {"list": [row]}}) + expected.count_rows(data)
    return row["id"] not in [other["id"] for other in rows] and many <= 300


def done(spec, data, deed):
    """The data after a deed that fits."""
    after = copy.deepcopy(data)
    if deed[0] == "flag":
        after["flags"][deed[1]] = not data["flags"][deed[1]]
        return after
    rows = wheres(spec, after)[deed[1]][1]
    many = len(rows)
    order = list(range(many))
    if deed[0] == "cut":
        order = order[:-1]
    if deed[0] == "remove":
        order = [at for at in order if at != deed[2]]
    if deed[0] == "move":
        rest = [at for at in order if at != deed[2]]
        order = rest[:deed[3]] + [deed[2]] + rest[deed[3]:]
    result = [rows[at] for at in order]
    if deed[0] == "append":
        result = result + [copy.deepcopy(deed[2])]
    if deed[0] == "insert":
        result = result[:deed[2]] + [copy.deepcopy(deed[3])] + result[deed[2]:]
    if deed[0] == "field":
        result[deed[2]]["fields"] = {**result[deed[2]]["fields"], deed[3]: deed[4]}
    rows[:] = result
    return after


def taken_back(spec, data, deed):
    """The deed that takes a deed back."""
    if deed[0] == "flag":
        return deed
    rows = wheres(spec, data)[deed[1]][1]
    return {
        "append": lambda: ("cut", deed[1]),
        "cut": lambda: ("append", deed[1], copy.deepcopy(rows[-1])),
        "insert": lambda: ("remove", deed[1], deed[2]),
        "remove": lambda: ("insert", deed[1], deed[2], copy.deepcopy(rows[deed[2]])),
        "move": lambda: ("move", deed[1], deed[3], deed[2]),
        "field": lambda: ("field", deed[1], deed[2], deed[3], rows[deed[2]]["fields"][deed[3]]),
    }[deed[0]]()


def every_row(shape, most):
    """All rows of a list with ids from 1 to most + 1, and with at most so many rows in the inner list."""
    fields = sorted(shape["fields"])
    inner = sorted(shape["inner"])
    several = [every_list(shape["inner"][name], most) for name in inner]
    return [{"id": number, "fields": dict(zip(fields, words)), "lists": dict(zip(inner, lists))}
            for number in range(1, most + 2) for words in itertools.product(*[shape["fields"][one] for one in fields])
            for lists in itertools.product(*several)]


def every_list(shape, most):
    rows = every_row(shape, most)
    return [list(chosen) for many in range(most + 1) for chosen in itertools.permutations(rows, many)
            if len({row["id"] for row in chosen}) == many]


def every_deed(spec, data, most):
    """All deeds of point 47, of all sorts."""
    found = [("flag", flag) for flag in spec[0]]
    for where, (shape, rows) in wheres(spec, data).items():
        many = len(rows)
        new = [row for row in every_row(shape, most) if row["id"] not in [other["id"] for other in rows]]
        if many < most:
            found += [("append", where, row) for row in new]
            found += [("insert", where, at, row) for row in new for at in range(many + 1)]
        found += [("cut", where)] * (many > 0)
        for at, row in enumerate(rows):
            found.append(("remove", where, at))
            found += [("move", where, at, to) for to in range(many) if to != at]
            found += [("field", where, at, field, word) for field, words in shape["fields"].items() for word in words
                      if word != row["fields"][field]]
    return found
