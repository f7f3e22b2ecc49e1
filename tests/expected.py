"""What the document says of arguments, written down a second time and in another way than the program.

A spec is the pair (flags, lists) that a shape is made from.
"""

import re


def word(value):
    return type(value) is str and re.fullmatch("[a-z]{1,8}", value) is not None


def keys_are(value, names):
    return type(value) is dict and sorted(map(repr, value)) == sorted(map(repr, names))


# Shapes

def shape_part(flags, lists):
    """The part that InvalidShape tells, or None."""
    if type(flags) not in (list, tuple) or len(flags) > 2 or not all(map(word, flags)) or len(flags) > len(set(flags)):
        return "flags"
    if not list_shapes(lists, 2) or not all(list_shapes(one["inner"], 1) for one in lists.values()):
        return "lists"
    inner = [pair for one in lists.values() for pair in one["inner"].items()]
    if any(type(one["inner"]) is not dict or one["inner"] for name, one in inner):
        return "lists"
    for name, one in list(lists.items()) + inner:
        if type(one["fields"]) is not dict or len(one["fields"]) > 2 or not all(map(word, one["fields"])):
            return "fields"
        for words in one["fields"].values():
            if type(words) is not tuple or not all(map(word, words)) or len(words) not in (2, 3):
                return "fields"
            if len(set(words)) < len(words):
                return "fields"
    names = list(lists) + [name for name, one in inner]
    return "names" if len(set(names)) < len(names) else None


def list_shapes(lists, most):
    if type(lists) is not dict or len(lists) > most:
        return False
    return all(word(name) and keys_are(one, ["fields", "inner"]) for name, one in lists.items())


def all_lists(spec):
    """A dict from the name of each list to its parent and its list shape."""
    table = {}
    for name, one in spec[1].items():
        table[name] = (None, one)
        table.update({inner: (name, two) for inner, two in one["inner"].items()})
    return table


# Data

def data_error(spec, data):
    """What check raises, or None."""
    for path, holds in data_places(spec, data):
        if not holds:
            return ("InvalidData", path)
    return ("LimitExceeded", 300) if count_rows(data) > 300 else None


def data_places(spec, data):
    flags, lists = spec
    yield (), keys_are(data, ["flags", "lists"])
    yield ("flags",), keys_are(data["flags"], flags)
    for flag in sorted(flags):
        yield ("flags", flag), data["flags"][flag] is True or data["flags"][flag] is False
    yield ("lists",), keys_are(data["lists"], lists)
    for name in sorted(lists):
        yield from row_places(lists[name], data["lists"][name], ("lists", name))


def row_places(one, rows, place):
    yield place, type(rows) is list
    ids = []
    for index, row in enumerate(rows):
        here = place + (index,)
        yield here, keys_are(row, ["id", "fields", "lists"])
        number = row["id"]
        yield here + ("id",), type(number) is int and number in range(1000001) and number not in ids
        ids.append(number)
        yield here + ("fields",), keys_are(row["fields"], one["fields"])
        for field in sorted(one["fields"]):
            value = row["fields"][field]
            yield here + ("fields", field), type(value) is str and value in one["fields"][field]
        yield here + ("lists",), keys_are(row["lists"], one["inner"])
        for inner in one["inner"]:
            yield from row_places(one["inner"][inner], row["lists"][inner], here + ("lists", inner))


def count_rows(data):
    many = 0
    holders = [data]
    while holders:
        for rows in holders.pop()["lists"].values():
            many += len(rows)
            holders.extend(rows)
    return many


# Templates

WORDS = {"part": 4, "group": 3, "if": 4, "for": 3, "piece": 3, "slot": 1}


def inner_lists(item):
    """The lists of items of a well-formed item."""
    return {"slot": [], "if": list(item[2:])}.get(item[0], [item[-1]])


def listed(items, start=()):
    """All items in order as pairs of a path and an item; the lists of an item that is not well-formed are left out.
    No more than 60 are listed: the limits are far below."""
    found = []
    for index, item in enumerate(items):
        if len(found) > 60:
            break
        path = start + (index,)
        found.append((path, item))
        if written_form(item):
            for number, inner in enumerate(inner_lists(item)):
                found.extend(listed(inner, path + (number,)))
    return found


def written_form(item):
    if type(item) is not tuple or not item or type(item[0]) is not str:
        return False
    return WORDS.get(item[0]) == len(item) and all(type(inner) is list for inner in inner_lists(item))


def template_error(spec, items, pieces):
    """What Template raises, as (part, path), or None."""
    return written_error(items, pieces) or spread_error(spec, spread(items, pieces or {}))


def written_error(items, pieces):
    if pieces is not None:
        if type(pieces) is not dict or len(pieces) > 3:
            return "form", ("pieces",)
        if not all(word(name) and type(inner) is list for name, inner in pieces.items()):
            return "form", ("pieces",)
    if type(items) is not list:
        return "form", ()
    every = []
    for name in sorted(pieces or {}):
        every.extend([("pieces", name), path, item] for path, item in listed(pieces[name]))
    every.extend([(), path, item] for path, item in listed(items))
    slots = []
    for at, (piece, path, item) in enumerate(every):
        if at >= 40:
            return "many", piece + path
        if len(path) > 15:
            return "depth", piece + path
        if not written_form(item):
            return "form", piece + path
        if item[0] == "piece" and (piece or type(item[1]) is not str or item[1] not in (pieces or {})):
            return "form", piece + path
        if item[0] == "slot":
            if not piece or piece in slots:
                return "form", piece + path
            slots.append(piece)
    return None


def spread(items, pieces):
    """The spread-out items: the pieces first become items with their slots left, then the slots are filled."""
    found = []
    for item in items:
        if item[0] == "piece":
            found.extend(filled(pieces[item[1]], spread(item[2], pieces)))
        else:
            found.append(rebuilt(item, [spread(inner, pieces) for inner in inner_lists(item)]))
    return found


def filled(items, filling):
    found = []
    for item in items:
        if item == ("slot",):
            found += filling
        else:
            found.append(rebuilt(item, [filled(inner, filling) for inner in inner_lists(item)]))
    return found


def rebuilt(item, lists):
    return item[:len(item) - len(lists)] + tuple(lists)


def around(items, path):
    """The items that the item at the path stands in, outermost first."""
    found = []
    while len(path) > 1:
        found.append(items[path[0]])
        items = inner_lists(items[path[0]])[path[1]]
        path = path[2:]
    return found


def rows_around(items, path):
    return tuple(item[1] for item in around(items, path) if item[0] == "for")


def spread_error(spec, items):
    gone = []
    for at, (path, item) in enumerate(listed(items)):
        rows = rows_around(items, path)
        above = [one[0] for one in around(items, path) if one[0] != "if"]
        if at >= 24:
            return "many", path
        if len(path) > 15:
            return "depth", path
        if item[0] == "part" and not word(item[1]):
            return "kind", path
        if item[0] in ("part", "group") and not (item[-2] is None or right_key(spec, item[-2], rows)):
            return "key", path
        if item[0] == "if" and not right_test(spec, item[1], rows):
            return "test", path
        if item[0] == "for":
            if item[1] not in lists_here(spec, rows) or item[1] in gone or above[-1:] == ["for"]:
                return "list", path
            gone.append(item[1])
    return None


def lists_here(spec, rows):
    return list(all_lists(spec)[rows[-1]][1]["inner"]) if rows else list(spec[1])


def fields_here(spec, rows):
    return all_lists(spec)[rows[-1]][1]["fields"] if rows else {}


def nested(value):
    """How deep tuples are nested behind the first part of each."""
    if type(value) is not tuple:
        return 0
    return 1 + max([nested(one) for one in value[1:]], default=0)


def right_key(spec, key, rows):
    return nested(key) <= 4 and key_form(spec, key, rows)


def key_form(spec, key, rows):
    if type(key) is not tuple or not key:
        return False
    if key[0] == "word":
        return len(key) == 2 and word(key[1])
    if key[0] == "id":
        return len(key) == 1 and len(rows) > 0
    if key[0] == "field":
        return len(key) == 2 and type(key[1]) is str and key[1] in fields_here(spec, rows)
    if key[0] == "up":
        return len(key) == 2 and len(rows) > 0 and key_form(spec, key[1], rows[:-1])
    if key[0] == "both":
        return len(key) == 3 and key_form(spec, key[1], rows) and key_form(spec, key[2], rows)
    return False


def right_test(spec, test, rows):
    return nested(test) <= 4 and test_form(spec, test, rows)


def test_form(spec, test, rows):
    if type(test) is not tuple or not test:
        return False
    if test[0] == "flag":
        return len(test) == 2 and test[1] in spec[0]
    if test[0] == "field":
        if len(test) != 3 or type(test[1]) is not str:
            return False
        return test[2] in fields_here(spec, rows).get(test[1], ())
    if test[0] == "empty":
        return len(test) == 2 and test[1] in lists_here(spec, rows)
    if test[0] == "up":
        return len(test) == 2 and len(rows) > 0 and test_form(spec, test[1], rows[:-1])
    if test[0] == "not":
        return len(test) == 2 and test_form(spec, test[1], rows)
    return False

