"""Changes: deeds that change data, all deeds for some data, and templates that are right for few rows."""

from statestay.copies import fresh
from statestay.deeds import after_deed, wrong_reason
from statestay.errors import InvalidDeed, LimitExceeded
from statestay.labels import mark_of
from statestay.right import is_right
from statestay.seen import Seen, differ
from statestay.shapes import all_data, check, count_data, every_choice, every_lists, free_ids

SORTS = ("append", "cut", "insert", "remove", "move", "field", "flag")
MOST_STARTS = 1000


def apply(shape, data, deed):
    """The data after the deed."""
    check(shape, data)
    reason = wrong_reason(shape, data, deed)
    if reason is not None:
        raise InvalidDeed(reason)
    return after_deed(data, deed)


def changes(shape, data, sorts, most):
    """Yield each deed of these sorts, with new rows of ids up to most + 1 for lists of fewer than most rows."""
    check(shape, data)
    given = fresh(data)
    asked = list(sorts)
    for where, name, rows in lists_of_data(shape, given):
        if len(rows) < most and ("append" in asked or "insert" in asked):
            for row in new_rows(shape, name, rows, most):
                if "append" in asked:
                    yield ("append", where, fresh(row))
                if "insert" in asked:
                    for index in range(len(rows) + 1):
                        yield ("insert", where, index, fresh(row))
        for deed in deeds_within(shape, where, name, rows):
            if deed[0] in asked:
                yield deed
    if "flag" in asked:
        for flag in shape.flags:
            yield ("flag", flag)


def lists_of_data(shape, data):
    """Triples of a where, the name of the list and its rows, for all lists of the data and of their rows."""
    found = []
    for name in shape.outer():
        found.append(((name,), name, data["lists"][name]))
        for row in data["lists"][name]:
            found.extend([((name, row["id"], inner), inner, rows) for inner, rows in row["lists"].items()])
    return found


def new_rows(shape, name, rows, most):
    """Yield each row that can be put to these rows of the list."""
    several = every_lists(shape, shape.inner(name), most, most + 1)
    for fields in every_choice(shape.fields(name)):
        for lists in several:
            for number in free_ids(rows, most + 1):
                yield {"id": number, "fields": fields, "lists": lists}


def deeds_within(shape, where, name, rows):
    """The deeds that change the rows of one list and put no row to them."""
    indexes = list(range(len(rows)))
    found = [("remove", where, index) for index in indexes]
    if rows:
        found.append(("cut", where))
    found.extend([("move", where, index, target) for index in indexes for target in indexes if index != target])
    for field, words in shape.fields(name).items():
        found.extend([("field", where, index, field, word) for index in indexes for word in words
                      if word != rows[index]["fields"][field]])
    return found


def is_right_for(template, rule, sorts, most):
    """None if no deed of these sorts leads from small data to a fault, otherwise such data and such a deed."""
    shape = template.shape
    if count_data(shape, most, ids=most + 1) > MOST_STARTS:
        raise LimitExceeded(MOST_STARTS)
    if is_right(template, rule) is None:
        return None
    several = list(all_data(shape, most, ids=most + 1))
    # No deed leads out of these data, so each drawing is made once.
    seen = {mark_of(data): Seen(template, rule, data) for data in several}
    for data in several:
        before = seen[mark_of(data)]
        for deed in changes(shape, data, sorts, most):
            if differ(before, seen[mark_of(after_deed(data, deed))]):
                return (data, deed)
    return None
