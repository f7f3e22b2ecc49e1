"""Templates: what screens are drawn by."""

from statestay.copies import fresh
from statestay.errors import NoItem
from statestay.templatechecks import check_written, placed
from statestay.trees import spliced, spread_out


class Template:
    """Items for a shape, kept spread out."""

    def __init__(self, shape, items, *, pieces=None):
        """Check what is written, spread it out and check what comes of it."""
        check_written(items, pieces)
        self.shape = shape
        self.tree = spread_out(items, pieces or {}, [])
        self.table = placed(shape, self.tree)

    def __eq__(self, other):
        """Whether the other is a template for an equal shape with equal spread-out items."""
        return isinstance(other, Template) and self.shape == other.shape and self.tree == other.tree

    def spread(self):
        """The list of the items."""
        return fresh(self.tree)

    def paths(self):
        """The paths of all items, each item before the items in its lists."""
        return list(self.table)

    def parts(self):
        """The paths of the parts, in the order of paths."""
        return [path for path, (item, around) in self.table.items() if item[0] == "part"]

    def kinds(self):
        """The different kinds of the parts, ascending."""
        return sorted({self.table[path][0][1] for path in self.parts()})

    def item_at(self, path):
        """The item at the path."""
        self.need_item(path)
        return fresh(self.table[path][0])

    def rows_around(self, path):
        """The names of the lists of the rows around the item at the path, outermost first."""
        self.need_item(path)
        return self.table[path][1]

    def with_item(self, path, item):
        """A new template with this item in the place of the one at the path."""
        self.need_item(path)
        return Template(self.shape, spliced(self.tree, path, 1, [item]))

    def need_item(self, path):
        """Raise NoItem if there is no item at the path."""
        if path not in self.table:
            raise NoItem(path)
