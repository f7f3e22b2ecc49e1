"""Shapes, and the data of a shape."""

from statestay.copies import fresh
from statestay.errors import InvalidData, InvalidShape, LimitExceeded, NoList
from statestay.forms import has_names, is_integer
from statestay.shapeforms import list_rows, wrong_part

MOST_ROWS = 300
MOST_DATA = 2000
GREATEST_ID = 1000000


class Shape:
    """What data look like: flags, and lists with fields and inner lists."""

    def __init__(self, flags, lists):
        """Check the flags and the lists, and keep copies of them."""
        part = wrong_part(flags, lists)
        if part is not None:
            raise InvalidShape(part)
        self.flags = tuple(sorted(list(flags)))
        # The names of all lists differ, so one table by name tells everything.
        self.table = {name: (parent, dict(fields)) for name, parent, fields in list_rows(lists)}

    def __eq__(self, other):
        """Whether the other is a shape with the same flags and lists."""
        return isinstance(other, Shape) and self.flags == other.flags and self.table == other.table

    def outer(self):
        """The names of the lists that are not inner lists, ascending."""
        return self.lists_in(None)

    def inner(self, name):
        """The names of the inner lists of a list."""
        self.need_list(name)
        return self.lists_in(name)

    def fields(self, name):
        """A dict from the fields of a list to their words."""
        self.need_list(name)
        return dict(self.table[name][1])

    def parent(self, name):
        """The name of the list whose inner list this is, or None."""
        self.need_list(name)
        return self.table[name][0]

    def lists_in(self, parent):
        """The names of the lists with this parent, ascending."""
        return sorted([name for name in self.table if self.table[name][0] == parent])

    def need_list(self, name):
        """Raise NoList if no list has this name."""
        if name not in self.table:
            raise NoList(name)


def check(shape, data):
    """Raise the error for the first wrong place of the data, or for too many rows."""
    if not has_names(data, ["flags", "lists"]):
        raise InvalidData(())
    check_words(data["flags"], {flag: (True, False) for flag in shape.flags}, ("flags",))
    check_lists(shape, data["lists"], shape.outer(), ("lists",))
    if rows_in(data) > MOST_ROWS:
        raise LimitExceeded(MOST_ROWS)


def check_words(chosen, choices, place):
    """Raise InvalidData unless this dict maps each name to one of its choices."""
    if not has_names(chosen, list(choices)):
        raise InvalidData(place)
    for name in sorted(list(choices)):
        if not is_choice(chosen[name], choices[name]):
            raise InvalidData(place + (name,))


def is_choice(value, several):
    """Whether the value is one of several words, or of True and False."""
    # The numbers 1 and 0 are equal to True and False, but they are no flag values.
    return isinstance(value, (str, bool)) and value in several


def check_lists(shape, lists, names, place):
    """Raise InvalidData unless this dict maps exactly these lists to their rows."""
    if not has_names(lists, names):
        raise InvalidData(place)
    for name in names:
        check_rows(shape, name, lists[name], place + (name,))


def check_rows(shape, name, rows, place):
    """Raise InvalidData unless these are rows of the list with this name."""
    if not isinstance(rows, list):
        raise InvalidData(place)
    earlier = {}
    for index, row in enumerate(rows):
        check_row(shape, name, row, earlier, place + (index,))
        earlier[row["id"]] = True


def check_row(shape, name, row, earlier, here):
    """Raise InvalidData unless this is a row of the list, with none of the earlier ids."""
    if not has_names(row, ["id", "fields", "lists"]):
        raise InvalidData(here)
    if not is_integer(row["id"], 0, GREATEST_ID) or row["id"] in earlier:
        raise InvalidData(here + ("id",))
    check_words(row["fields"], shape.fields(name), here + ("fields",))
    check_lists(shape, row["lists"], shape.inner(name), here + ("lists",))


def rows_in(data):
    """The number of rows of the data in all, rows of inner lists included."""
    # A row holds its inner lists as data hold their lists, so its rows are counted alike.
    return sum([len(rows) + sum([rows_in(row) for row in rows]) for rows in data["lists"].values()])


def count_data(shape, most, *, ids=2):
    """The number of data with at most so many rows in each list and ids from 1 to ids."""
    total = 1
    for name in shape.outer():
        total = total * count_rows(shape, name, most, ids)
    for choice in shape.flags:
        total = total * 2
    return total


def count_rows(shape, name, most, ids):
    """The number of lists of rows that the list with this name can have."""
    bodies = 1
    for words in shape.fields(name).values():
        bodies = bodies * len(words)
    for inner in shape.inner(name):
        bodies = bodies * count_rows(shape, inner, most, ids)
    total = 1
    ways = 1
    for taken in range(most):
        # Behind so many rows this many ids are left; none is left for ever once it is 0.
        ways = ways * (ids - taken) * bodies
        total = total + ways
    return total


def all_data(shape, most, *, ids=2):
    """Yield each of the data that count_data counts."""
    if count_data(shape, most, ids=ids) > MOST_DATA:
        raise LimitExceeded(MOST_DATA)
    several = every_lists(shape, shape.outer(), most, ids)
    for flags in every_choice({flag: (False, True) for flag in shape.flags}):
        for lists in several:
            yield fresh({"flags": flags, "lists": lists})


def every_choice(choices):
    """Each dict that maps each of the names to one of its choices."""
    chosen = [{}]
    for name in choices:
        chosen = [{**before, name: one} for before in chosen for one in choices[name]]
    return chosen


def every_lists(shape, names, most, ids):
    """Each dict that maps each of these lists to rows that it can have."""
    return every_choice({name: every_rows(shape, name, most, ids) for name in names})


def every_rows(shape, name, most, ids):
    """Each list of rows that the list with this name can have."""
    bodies = every_choice({
        "fields": every_choice(shape.fields(name)),
        "lists": every_lists(shape, shape.inner(name), most, ids),
    })
    longest = [[]]
    found = [[]]
    for length in range(most):
        longest = [rows + [{"id": number, **body}] for rows in longest for number in free_ids(rows, ids)
                   for body in bodies]
        found = found + longest
    return found


def free_ids(rows, ids):
    """The ids from 1 to ids that no row has."""
    taken = [row["id"] for row in rows]
    return [number for number in range(1, ids + 1) if number not in taken]
