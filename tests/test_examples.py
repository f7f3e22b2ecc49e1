"""The examples of the document, as they stand there."""

import unittest

from statestay.shapes import Shape, all_data, check, count_data
from statestay.templates import Template
from helpers import outcome


class Examples(unittest.TestCase):
    def test_shape(self):
        inner = {"fields": {}, "inner": {}}
        shape = Shape(["open", "dark"], {"todo": {"fields": {"mark": ("new", "old")}, "inner": {"step": inner}}})
        self.assertEqual(
            [shape.flags, shape.outer(), shape.inner("todo"), shape.parent("step"), shape.fields("todo")],
            [('dark', 'open'), ['todo'], ['step'], 'todo', {'mark': ('new', 'old')}])

    def test_invalid_shape(self):
        told = outcome(Shape, [], {"todo": {"fields": {"mark": ("new", "new")}, "inner": {}}})
        self.assertEqual(told, ("InvalidShape", "fields"))

    def test_invalid_data(self):
        shape = Shape(["on"], {"todo": {"fields": {}, "inner": {}}})
        row = {"id": 5, "fields": {}, "lists": {}}
        told = outcome(check, shape, {"flags": {"on": True}, "lists": {"todo": [row, row]}})
        self.assertEqual(told, ("InvalidData", ('lists', 'todo', 1, 'id')))

    def test_count_data(self):
        shape = Shape(["on"], {"todo": {"fields": {}, "inner": {}}})
        self.assertEqual([count_data(shape, 2), count_data(shape, 3, ids=4)], [10, 82])
        self.assertEqual(2 * (1 + 2 + 2), len(list(all_data(shape, 2, ids=2))))

    def test_spread_out(self):
        shape = Shape([], {})
        pieces = {"field": [("part", "label", None, []), ("slot",)]}
        items = [("piece", "field", [("part", "input", None, [])]), ("piece", "field", [])]
        template = Template(shape, items, pieces=pieces)
        self.assertEqual(template.spread(), [
            ("part", "label", None, []), ("part", "input", None, []), ("part", "label", None, [])])
        self.assertEqual(template.paths(), [(0,), (1,), (2,)])

    def test_template(self):
        shape = Shape([], {"todo": {"fields": {}, "inner": {}}})
        pieces = {"field": [("part", "label", None, []), ("slot",)]}
        rows = ("for", "todo", [("part", "row", ("id",), [])])
        items = [("piece", "field", [rows]), ("piece", "field", [])]
        template = Template(shape, items, pieces=pieces)
        self.assertEqual([template.paths(), template.parts(), template.rows_around((1, 0, 0))],
                         [[(0,), (1,), (1, 0, 0), (2,)], [(0,), (1, 0, 0), (2,)], ('todo',)])

    def test_invalid_template(self):
        shape = Shape([], {"todo": {"fields": {}, "inner": {}}})
        told = outcome(Template, shape, [("for", "todo", [("part", "row", ("up", ("id",)), [])])])
        self.assertEqual(told, ("InvalidTemplate", 'key', (0, 0, 0)))


if __name__ == "__main__":
    unittest.main()
