"""Deeds: changes of data, whether they fit, and what they lead to."""

from statestay.copies import fresh
from statestay.errors import InvalidData
from statestay.forms import has_form, is_integer
from statestay.shapes import GREATEST_ID, MOST_ROWS, check_row, rows_in

FORMS = (("append", 3), ("cut", 2), ("insert", 4), ("remove", 3), ("move", 4), ("field", 5), ("flag", 2))


def wrong_reason(shape, data, deed):
    """The word for the first reason why the deed does not fit the data, or None."""
    if not has_form(deed, FORMS):
        return "form"
    if deed[0] == "flag":
        return None if deed[1] in shape.flags else "flag"
    name = list_at(shape, data, deed[1])
    if name is None:
        return "where"
    rows = rows_at(data, deed[1])
    if not indexes_fit(deed, len(rows)):
        return "index"
    if deed[0] in ("append", "insert") and not row_fits(shape, data, name, rows, deed[-1]):
        return "row"
    if deed[0] == "field":
        return wrong_field(shape.fields(name), deed[3], deed[4])
    return None


def list_at(shape, data, where):
    """The name of the list that a where names, or None if it names none in these data."""
    if not isinstance(where, tuple) or len(where) not in (1, 3) or where[0] not in shape.outer():
        return None
    if len(where) == 1:
        return where[0]
    # True is equal to 1, but it is no id.
    if not is_integer(where[1], 0, GREATEST_ID) or where[2] not in shape.inner(where[0]):
        return None
    return where[2] if where[1] in [row["id"] for row in data["lists"][where[0]]] else None


def rows_at(data, where):
    """The rows of the list that a where names in these data."""
    rows = data["lists"][where[0]]
    if len(where) == 1:
        return rows
    return [row for row in rows if row["id"] == where[1]][0]["lists"][where[2]]


def indexes_fit(deed, many):
    """Whether the indexes of a deed fit a list of so many rows."""
    if deed[0] == "append":
        return True
    if deed[0] == "cut":
        return many > 0
    if deed[0] == "insert":
        return is_integer(deed[2], 0, many)
    if deed[0] == "move" and not is_integer(deed[3], 0, many - 1):
        return False
    return is_integer(deed[2], 0, many - 1)


def row_fits(shape, data, name, rows, row):
    """Whether this is a row that can be added to these rows of the list."""
    try:
        check_row(shape, name, row, {other["id"]: True for other in rows}, ())
    except InvalidData:
        return False
    # A row holds its inner lists as data hold their lists, so its rows are counted alike.
    return rows_in(data) + 1 + rows_in(row) <= MOST_ROWS


def wrong_field(fields, field, word):
    """The word for what is wrong with a field and its word, or None."""
    # The field may be a list: it is compared with the names, never looked up as a key.
    if field not in list(fields):
        return "field"
    return None if word in fields[field] else "word"


def after_deed(data, deed):
    """New data: what the data become by a deed that fits."""
    result = fresh(data)
    if deed[0] == "flag":
        result["flags"][deed[1]] = not result["flags"][deed[1]]
        return result
    rows = rows_at(result, deed[1])
    if deed[0] == "append":
        rows.append(fresh(deed[2]))
    elif deed[0] == "cut":
        rows.pop()
    elif deed[0] == "insert":
        rows.insert(deed[2], fresh(deed[3]))
    elif deed[0] == "remove":
        rows.pop(deed[2])
    elif deed[0] == "move":
        rows.insert(deed[3], rows.pop(deed[2]))
    else:
        rows[deed[2]]["fields"][deed[3]] = deed[4]
    return result
