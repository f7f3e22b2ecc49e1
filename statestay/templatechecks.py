"""The checks of a template: first what is written, then what is spread out."""

from statestay.errors import InvalidTemplate
from statestay.fits import key_fits, list_fits, test_fits
from statestay.forms import has_form, is_named, is_word
from statestay.trees import in_order, lists_of

ITEMS = (("part", 4), ("group", 3), ("if", 4), ("for", 3), ("piece", 3), ("slot", 1))
MOST_PIECES = 3
MOST_WRITTEN = 40
MOST_SPREAD = 24
MOST_DEEP = 8


def check_written(items, pieces):
    """Raise InvalidTemplate for the first thing that is wrong in what is written."""
    if pieces is not None and not are_pieces(pieces):
        raise InvalidTemplate("form", ("pieces",))
    if not isinstance(items, list):
        raise InvalidTemplate("form", ())
    names = sorted(list(pieces or {}))
    many = 0
    for name in names:
        many = check_items(pieces[name], ("pieces", name), [], 1, many)
    check_items(items, (), names, 0, many)


def are_pieces(pieces):
    """Whether this is a dict from words to lists with no more pieces than there may be."""
    if not is_named(pieces, MOST_PIECES):
        return False
    return all([isinstance(items, list) for items in pieces.values()])


def check_items(items, start, names, slots, many):
    """Check items behind so many others, with the names and the slots that they may have; count them all."""
    for deep, path, item in in_order(items, start):
        many += 1
        check_limits(many, MOST_WRITTEN, deep, path)
        if not is_item(item, names, slots):
            raise InvalidTemplate("form", path)
        if item[0] == "slot":
            slots -= 1
    return many


def check_limits(many, most, deep, path):
    """Raise InvalidTemplate if an item is one too many or nested too deep."""
    if many > most:
        raise InvalidTemplate("many", path)
    if deep > MOST_DEEP:
        raise InvalidTemplate("depth", path)


def is_item(item, names, slots):
    """Whether this has the form of an item where these pieces and so many slots may stand."""
    if not has_form(item, ITEMS):
        return False
    if item[0] == "slot":
        return slots > 0
    if item[0] == "piece" and item[1] not in names:
        return False
    return all([isinstance(items, list) for items in lists_of(item)])


def placed(shape, tree):
    """Check the spread-out items; a dict from the path of each to the item and the names of the lists around it."""
    table = {}
    gone_through = {}
    # For each item: the lists around what stands in it, and whether that stands in a for with no node between.
    inside = {(): ((), False)}
    for deep, path, item in in_order(tree, ()):
        check_limits(len(table) + 1, MOST_SPREAD, deep, path)
        around, bare = inside[path[:-2]]
        part = wrong_part(shape, item, around)
        if part is None and item[0] == "for" and (bare or item[1] in gone_through):
            part = "list"
        if part is not None:
            raise InvalidTemplate(part, path)
        if item[0] == "for":
            gone_through[item[1]] = True
        table[path] = (item, around)
        inside[path] = inside_of(item, around, bare)
    return table


def wrong_part(shape, item, around):
    """The word for the first part of the item that is wrong with these rows around it, or None."""
    if item[0] == "if":
        return None if test_fits(shape, item[1], around) else "test"
    if item[0] == "for":
        return None if list_fits(shape, item[1], around) else "list"
    if item[0] == "part" and not is_word(item[1]):
        return "kind"
    # A part and a group have their key directly ahead of their items.
    return None if key_fits(shape, item[-2], around) else "key"


def inside_of(item, around, bare):
    """The lists around what stands in an item, and whether that stands in a for with no node between."""
    if item[0] == "for":
        return around + (item[1],), True
    return around, bare and item[0] == "if"
