"""The form of what a shape is made from."""

from statestay.forms import are_words, has_names, is_named


def wrong_part(flags, lists):
    """The word for the first part that is wrong, or None."""
    if not isinstance(flags, (list, tuple)) or not are_words(flags, 0, 2):
        return "flags"
    if not are_lists(lists):
        return "lists"
    rows = list_rows(lists)
    if not all([are_fields(fields) for name, parent, fields in rows]):
        return "fields"
    if len({name for name, parent, fields in rows}) < len(rows):
        return "names"
    return None


def are_lists(lists):
    """Whether the lists have their form, whatever their fields are."""
    if not are_list_shapes(lists, 2):
        return False
    for outer in lists.values():
        if not are_list_shapes(outer["inner"], 1):
            return False
        if not all([are_list_shapes(inner["inner"], 0) for inner in outer["inner"].values()]):
            return False
    return True


def are_list_shapes(lists, most):
    """Whether this is a dict from at most so many words to dicts with the keys of a list shape."""
    if not is_named(lists, most):
        return False
    return all([has_names(one, ["fields", "inner"]) for one in lists.values()])


def list_rows(lists):
    """A tuple of the name, the parent (or None) and the fields for each list, inner lists included."""
    rows = []
    for name, outer in lists.items():
        rows.append((name, None, outer["fields"]))
        for deep, inner in outer["inner"].items():
            rows.append((deep, name, inner["fields"]))
    return rows


def are_fields(fields):
    """Whether this is a dict from at most 2 words to tuples of 2 or 3 different words."""
    if not is_named(fields, 2):
        return False
    return all([isinstance(words, tuple) and are_words(words, 2, 3) for words in fields.values()])
