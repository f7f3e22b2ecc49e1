"""Point 10: count_data and all_data."""

import inspect
import unittest

from statestay.shapes import Shape, all_data, check, count_data
from expected import count_rows
from helpers import clear, exactly, outcome
from samples import one, specs


def lists_in(data):
    """All lists of rows in data."""
    found = []
    for rows in data["lists"].values():
        found.append(rows)
        for row in rows:
            found.extend(lists_in(row))
    return found


def listed(shape, most, **more):
    return list(all_data(shape, most, **more))


SMALL = [
    ([], {}), (["on"], {}), (["on", "off"], {}), ([], {"a": one()}), (["on"], {"a": one(), "b": one()}),
    ([], {"a": one({"f": ("x", "y", "z")})}), ([], {"a": one({"f": ("x", "y"), "g": ("x", "y", "z")})}),
    ([], {"a": one({}, {"b": one()})}), (["on"], {"a": one({"f": ("x", "y")}, {"b": one({"g": ("x", "y")})})}),
    ([], {"a": one({}, {"b": one()}), "c": one({}, {"d": one()})}),
]


class Count(unittest.TestCase):
    def test_literal_numbers(self):
        shape = Shape(["on"], {"todo": one()})
        self.assertEqual([count_data(shape, most) for most in range(4)], [2, 6, 10, 10])
        self.assertEqual([count_data(shape, 3, ids=ids) for ids in (1, 2, 3, 4)], [4, 10, 32, 82])
        self.assertEqual(count_data(Shape([], {}), 3, ids=4), 1)
        self.assertEqual(count_data(Shape(["a", "b"], {}), 0), 4)

    def test_fields_and_inner_lists(self):
        # One list with 6 ways for its fields and 1 + 2 * 2 ways for its inner list.
        shape = Shape([], {"a": one({"f": ("x", "y"), "g": ("x", "y", "z")}, {"b": one({"h": ("x", "y")})})})
        self.assertEqual(count_data(shape, 1), 1 + 2 * 6 * 5)
        self.assertEqual(count_data(shape, 1, ids=1), 1 + 6 * 3)
        self.assertEqual(count_data(shape, 2), 1 + 2 * 78 + 2 * 78 * 78)
        self.assertEqual(count_data(shape, 0, ids=4), 1)

    def test_the_largest_numbers(self):
        fields = {"f": ("x", "y", "z"), "g": ("x", "y", "z")}

        def large(inner):
            return one(dict(fields), {inner: one(dict(fields))})

        inner = 1 + 4 * 9 + 12 * 9 ** 2 + 24 * 9 ** 3
        rows = 9 * inner
        total = 1 + 4 * rows + 12 * rows ** 2 + 24 * rows ** 3
        shape = Shape(["on", "off"], {"a": large("b"), "c": large("d")})
        self.assertEqual(count_data(shape, 3, ids=4), 4 * total * total)
        self.assertEqual(outcome(listed, shape, 3, ids=4), ("LimitExceeded", 2000))

    def test_ids_is_keyword_only(self):
        shape = Shape([], {})
        self.assertRaises(TypeError, count_data, shape, 2, 2)
        self.assertRaises(TypeError, all_data, shape, 2, 2)
        for call in (count_data, all_data):
            ids = inspect.signature(call).parameters["ids"]
            self.assertEqual((ids.default, ids.kind), (2, inspect.Parameter.KEYWORD_ONLY))


class All(unittest.TestCase):
    def test_the_number_against_the_list(self):
        for flags, lists in SMALL + specs():
            shape = Shape(flags, lists)
            for most in range(4):
                for ids in range(1, 5):
                    many = count_data(shape, most, ids=ids)
                    if many > 2000:
                        self.assertEqual(outcome(listed, shape, most, ids=ids), ("LimitExceeded", 2000))
                    elif many < 600:
                        self.each(shape, most, ids, many)

    def each(self, shape, most, ids, many):
        """No two data are alike, and each is as asked."""
        every = listed(shape, most, ids=ids)
        self.assertEqual(len(every), many)
        self.assertEqual(len({exactly(data) for data in every}), many)
        for data in every:
            self.assertIsNone(check(shape, data))
            for rows in lists_in(data):
                self.assertLessEqual(len(rows), most)
                self.assertTrue(all(1 <= row["id"] <= ids for row in rows))

    def test_the_example_in_full(self):
        shape = Shape(["on"], {"todo": one()})
        orders = {(data["flags"]["on"], tuple(row["id"] for row in data["lists"]["todo"]))
                  for data in all_data(shape, 2)}
        ways = [(), (1,), (2,), (1, 2), (2, 1)]
        self.assertEqual(orders, {(on, way) for on in (True, False) for way in ways})

    def test_it_is_a_generator(self):
        found = all_data(Shape([], {}), 2)
        self.assertTrue(inspect.isgenerator(found))
        self.assertEqual(next(found), {"flags": {}, "lists": {}})
        self.assertEqual(list(found), [])

    def test_the_limit_is_told_when_it_is_first_iterated(self):
        fields = {"f": ("x", "y"), "g": ("x", "y", "z")}
        shape = Shape([], {"a": one(fields, {"b": one(fields)})})
        found = all_data(shape, 3, ids=4)
        self.assertEqual(outcome(next, found), ("LimitExceeded", 2000))

    def test_just_below_and_above_the_limit(self):
        two, three = {"f": ("x", "y")}, {"f": ("x", "y", "z")}
        four = {"f": ("x", "y"), "g": ("x", "y")}
        # 2 * (1 + 3 * 2 * 4) * (1 + 3 * 13) data, and (1 + 3 * 3 * 10) * (1 + 3 * 7) data.
        below = Shape(["on"], {"a": one(two, {"b": one()}), "c": one({}, {"d": one(four)})})
        above = Shape([], {"a": one(three, {"b": one(three)}), "c": one({}, {"d": one(two)})})
        self.assertEqual([count_data(below, 1, ids=3), count_data(above, 1, ids=3)], [2000, 2002])
        self.assertEqual(len({exactly(data) for data in all_data(below, 1, ids=3)}), 2000)
        self.assertEqual(outcome(listed, above, 1, ids=3), ("LimitExceeded", 2000))

    def test_each_datum_spoiled_while_others_are_to_come(self):
        for flags, lists in SMALL:
            shape = Shape(flags, lists)
            for most in (1, 2):
                if count_data(shape, most) > 600:
                    continue
                expected = sorted(exactly(data) for data in listed(shape, most))
                found = []
                for data in all_data(shape, most):
                    found.append(exactly(data))
                    clear(data)
                self.assertEqual(sorted(found), expected)
                found = []
                for data in all_data(shape, most):
                    found.append(exactly(data))
                    for rows in lists_in(data):
                        for row in rows:
                            row["id"] = 99
                            row["fields"]["more"] = 1
                        rows.append("more")
                    data["flags"]["more"] = 1
                self.assertEqual(sorted(found), expected)

    def test_no_two_places_share_a_list(self):
        shape = Shape([], {"a": one({"f": ("x", "y")}, {"b": one()})})
        for data in all_data(shape, 2):
            if count_rows(data) == 6:
                first, second = data["lists"]["a"]
                first["lists"]["b"].append("more")
                first["lists"]["b"][0]["id"] = 99
                first["fields"]["f"] = "more"
                self.assertEqual(len(second["lists"]["b"]), 2)
                self.assertNotIn(99, [row["id"] for row in second["lists"]["b"]])
                self.assertNotEqual(second["fields"]["f"], "more")

    def test_two_at_once(self):
        shape = Shape(["on"], {"a": one()})
        first, second = all_data(shape, 2), all_data(shape, 2)
        pairs = list(zip(first, second))
        self.assertEqual(len(pairs), 10)
        for left, right in pairs:
            clear(left)
            self.assertIsNone(check(shape, right))


if __name__ == "__main__":
    unittest.main()
