"""Points 7 to 9: the data of a shape."""

import copy
import random
import unittest

from statestay.shapes import Shape, check, rows_in
from expected import count_rows, data_error
from helpers import ODD, exactly, outcome, spoiled, variants
from samples import one, rich, rich_data, specs


def row(number, fields=None, lists=None):
    return {"id": number, "fields": fields or {}, "lists": lists or {}}


def data_for(spec, dice):
    """Some data of the shape of a spec."""
    def rows(shape):
        numbers = dice.sample([0, 1, 2, 1000000, 999999, 7], dice.randrange(4))
        return [row(number, {name: dice.choice(words) for name, words in shape["fields"].items()},
                    {name: rows(inner) for name, inner in shape["inner"].items()}) for number in numbers]

    flags, lists = spec
    return {"flags": {flag: dice.choice([True, False]) for flag in flags},
            "lists": {name: rows(shape) for name, shape in lists.items()}}


class Base(unittest.TestCase):
    def told(self, spec, data, shape=None):
        """What check raises is what the document says, and the data stay."""
        before = exactly(data)
        self.assertEqual(outcome(check, shape or Shape(*spec), data), data_error(spec, data), before)
        self.assertEqual(exactly(data), before)


class Data(Base):
    def test_good_data(self):
        self.assertIsNone(check(Shape(*rich()), rich_data()))
        dice = random.Random(7)
        for spec in specs() + [rich()]:
            for step in range(5):
                data = data_for(spec, dice)
                self.assertIsNone(check(Shape(*spec), data))
                self.assertIsNone(data_error(spec, data))

    def test_the_least_and_the_greatest_id(self):
        spec = ([], {"todo": one()})
        for number, error in ((0, None), (1000000, None), (-1, ("todo", 0, "id")), (1000001, ("todo", 0, "id"))):
            told = error and ("InvalidData", ("lists",) + error)
            self.assertEqual(outcome(check, Shape(*spec), {"flags": {}, "lists": {"todo": [row(number)]}}), told)

    def test_equal_ids_in_unlike_lists(self):
        spec = ([], {"a": one({}, {"c": one()}), "b": one()})
        inner = [row(5, {}, {"c": [row(5), row(6)]}), row(6, {}, {"c": [row(5)]})]
        data = {"flags": {}, "lists": {"a": inner, "b": [row(5), row(6)]}}
        self.assertIsNone(check(Shape(*spec), data))
        data["lists"]["a"][0]["lists"]["c"].append(row(5))
        path = ("lists", "a", 0, "lists", "c", 2, "id")
        self.assertEqual(outcome(check, Shape(*spec), data), ("InvalidData", path))

    def test_the_same_object_in_several_places(self):
        rows = [row(1), row(2)]
        data = {"flags": {}, "lists": {"a": rows, "b": rows}}
        self.assertIsNone(check(Shape([], {"a": one(), "b": one()}), data))


class WrongData(Base):
    def raises(self, path, shape, data):
        self.assertEqual(outcome(check, shape, data), ("InvalidData", path))

    def test_each_place(self):
        shape = Shape(*rich())

        def data(change, *path):
            given = rich_data()
            at = given
            for step in path[:-1]:
                at = at[step]
            at[path[-1]] = change
            return given

        todo, menu = ("lists", "todo"), ("lists", "menu")
        step = todo + (0, "lists", "step")
        for change, path in (
            ([], ("flags",)), ({}, ("flags",)), ({"open": True}, ("flags",)),
            ({"open": True, "dark": True, "x": True}, ("flags",)), ({"open": True, "x": True}, ("flags",)),
            (1, ("flags", "open")), (0, ("flags", "dark")), (None, ("flags", "dark")), ([], ("flags", "open")),
            ("True", ("flags", "open")), (None, ("lists",)), ({}, ("lists",)), ({"todo": []}, ("lists",)),
            ({"todo": [], "menu": [], "step": []}, ("lists",)), ((), todo), ({}, menu), (None, todo),
            (None, todo + (1,)), ({}, todo + (1,)), ([], menu + (0,)), ({"id": 1, "fields": {}}, todo + (0,)),
            (True, todo + (0, "id")), (-1, todo + (0, "id")), (1000001, todo + (2, "id")), ("1", todo + (0, "id")),
            (None, todo + (0, "id")), ([], todo + (0, "id")), (1000000, todo + (2, "id")), (0, todo + (1, "id")),
            ({}, todo + (0, "fields")), ({"tone": "red"}, todo + (0, "fields")), ([], todo + (0, "fields")),
            ({"tone": "red", "size": "small"}, todo + (0, "fields")), ("odd", todo + (0, "fields", "mark")),
            ("red", todo + (0, "fields", "mark")), (None, todo + (0, "fields", "tone")),
            ([], todo + (1, "fields", "tone")), (("red",), todo + (1, "fields", "tone")),
            (True, todo + (1, "fields", "tone")), ({}, todo + (0, "lists")), ([], todo + (0, "lists")),
            ({"bite": []}, todo + (0, "lists")), ((), step), (None, step), (None, step + (1,)), (0, step + (1, "id")),
            (None, step + (0, "fields")), ("red", step + (1, "fields", "size")), (None, step + (0, "lists")),
            ({"step": []}, step + (0, "lists")), ({"x": 1}, menu + (0, "lists", "bite", 1, "fields")),
        ):
            self.raises(path, shape, data(change, *path))

    def test_the_whole(self):
        shape = Shape([], {})
        self.assertIsNone(check(shape, {"flags": {}, "lists": {}}))
        for data in (None, [], {}, {"flags": {}}, {"lists": {}}, {"flags": {}, "lists": {}, "more": {}},
                     {"flags": {}, "list": {}}, {"flags": {}, None: {}}, "", 0, ({}, {})):
            self.raises((), shape, data)

    def test_the_first_wrong_place(self):
        shape = Shape(*rich())
        data = rich_data()
        for path, value in (
            (("lists", "todo", 1, "fields", "tone"), None),
            (("lists", "todo", 0, "lists", "step", 1, "id"), None),
            (("lists", "todo", 0, "lists"), {"step": 1, "x": 2}),
            (("lists", "todo", 0, "fields", "tone"), 5),
            (("lists", "todo", 0, "fields", "mark"), []),
            (("lists", "todo", 0, "fields"), []),
            (("lists", "todo", 0, "id"), True),
            (("lists", "todo", 0), None),
            (("lists", "todo"), None),
            (("lists", "menu", 0, "lists", "bite", 0, "id"), -1),
            (("lists", "menu"), {}),
            (("lists",), []),
            (("flags", "open"), 0),
            (("flags", "dark"), 1),
            (("flags",), {"dark": 1}),
        ):
            at = data
            for step in path[:-1]:
                at = at[step]
            at[path[-1]] = value
            self.raises(path, shape, data)
            self.assertEqual(data_error(rich(), data), ("InvalidData", path))

    def test_the_inner_list_before_the_next_row_and_the_next_list(self):
        shape = Shape([], {"a": one({}, {"c": one()}), "b": one()})
        data = {"flags": {}, "lists": {"b": None, "a": [row(1, {}, {"c": [row(1), row(1)]}), None]}}
        self.raises(("lists", "a", 0, "lists", "c", 1, "id"), shape, data)
        data["lists"]["a"][0]["lists"]["c"].pop()
        self.raises(("lists", "a", 1), shape, data)
        data["lists"]["a"].pop()
        self.raises(("lists", "b"), shape, data)

    def test_odd_data(self):
        for spec in specs()[::7] + [rich()]:
            for odd in ODD:
                self.told(spec, odd)
                self.told(spec, {"flags": odd, "lists": odd})

    def test_spoiled_in_one_place(self):
        spec = rich()
        shape = Shape(*spec)
        for data in variants(rich_data()):
            self.told(spec, data, shape)

    def test_spoiled_in_several_places(self):
        dice = random.Random(8)
        several = specs()[::2] + [rich()] * 40
        for step in range(6000):
            spec = dice.choice(several)
            data = rich_data() if spec == rich() else data_for(spec, dice)
            for many in range(dice.choice([1, 2, 2, 3, 3, 4])):
                data = spoiled(data, dice)
            self.told(spec, data)


class Limit(Base):
    def many(self, outer, inner):
        """Data with so many rows in a list, and in the inner list of the last of them."""
        rows = [row(number, {}, {"c": []}) for number in range(outer)]
        if rows:
            rows[-1]["lists"]["c"] = [row(number) for number in range(inner)]
        return {"flags": {"on": True}, "lists": {"a": rows, "b": []}}

    def test_300_and_301_rows(self):
        shape = Shape(["on"], {"a": one({}, {"c": one()}), "b": one()})
        for outer, inner, second in ((300, 0, 0), (1, 299, 0), (100, 100, 100), (0, 0, 300), (150, 150, 0)):
            data = self.many(outer, inner)
            data["lists"]["b"] = [row(number) for number in range(second)]
            self.assertIsNone(check(shape, data))
            self.assertEqual(rows_in(data), 300)
            for rows in (data["lists"]["a"], data["lists"]["b"]):
                rows.append(row(1000, {}, {"c": []} if rows is data["lists"]["a"] else {}))
                self.assertEqual(outcome(check, shape, data), ("LimitExceeded", 300))
                self.assertEqual(rows_in(data), 301)
                rows.pop()

    def test_something_wrong_besides(self):
        shape = Shape(["on"], {"a": one({}, {"c": one()}), "b": one()})
        data = self.many(200, 101)
        self.assertEqual(outcome(check, shape, data), ("LimitExceeded", 300))
        data["lists"]["b"] = [row(1), row(1)]
        self.assertEqual(outcome(check, shape, data), ("InvalidData", ("lists", "b", 1, "id")))
        data["lists"]["b"] = None
        self.assertEqual(outcome(check, shape, data), ("InvalidData", ("lists", "b")))
        data = self.many(302, 0)
        data["lists"]["a"][301]["id"] = 300
        self.assertEqual(outcome(check, shape, data), ("InvalidData", ("lists", "a", 301, "id")))
        data = self.many(302, 0)
        data["flags"]["on"] = 1
        self.assertEqual(outcome(check, shape, data), ("InvalidData", ("flags", "on")))

    def test_rows_in(self):
        self.assertEqual(rows_in({"flags": {}, "lists": {}}), 0)
        self.assertEqual(rows_in(rich_data()), 3 + 2 + 1 + 1 + 2)
        dice = random.Random(9)
        for spec in specs():
            data = data_for(spec, dice)
            before = copy.deepcopy(data)
            self.assertEqual(rows_in(data), count_rows(data))
            self.assertEqual(data, before)


if __name__ == "__main__":
    unittest.main()
