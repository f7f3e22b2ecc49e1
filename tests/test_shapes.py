"""Points 3 to 6: shapes."""

import copy
import random
import unittest

from statestay.shapes import Shape
from expected import all_lists, shape_part
from helpers import ODD, clear, exactly, outcome, spoiled, variants
from samples import one, rich, specs


class Base(unittest.TestCase):
    def compare(self, shape, spec):
        """The shape says what the spec says."""
        flags, lists = spec
        table = all_lists(spec)
        self.assertEqual(exactly(shape.flags), exactly(tuple(sorted(flags))))
        self.assertEqual(exactly(shape.outer()), exactly(sorted(lists)))
        for name, (parent, one_list) in table.items():
            self.assertEqual(exactly(shape.inner(name)), exactly(list(one_list["inner"])))
            self.assertEqual(exactly(shape.fields(name)), exactly(one_list["fields"]))
            self.assertEqual(shape.parent(name), parent)


class Shapes(Base):
    def test_methods(self):
        for spec in specs() + [rich()]:
            self.compare(Shape(*spec), spec)

    def test_fields_keep_the_order_of_their_words(self):
        shape = Shape([], {"todo": one({"mark": ("z", "a", "m"), "also": ("b", "a")})})
        self.assertEqual(shape.fields("todo"), {"mark": ("z", "a", "m"), "also": ("b", "a")})
        self.assertEqual(list(shape.fields("todo")), ["mark", "also"])

    def test_the_order_of_keys_means_nothing(self):
        shape = Shape([], {"b": one(), "a": one()})
        self.assertEqual(shape.outer(), ["a", "b"])
        turned = {"b": {"inner": {}, "fields": {}}, "a": {"inner": {}, "fields": {}}}
        self.assertEqual(Shape([], turned), shape)

    def test_a_flag_a_field_and_a_list_of_one_name(self):
        shape = Shape(["todo"], {"todo": one({"todo": ("todo", "b")}, {"step": one({"todo": ("b", "todo")})})})
        self.assertEqual((shape.flags, shape.outer()), (("todo",), ["todo"]))

    def test_arguments_stay(self):
        for spec in specs() + [rich()]:
            before = copy.deepcopy(spec)
            Shape(*spec)
            self.assertEqual(exactly(spec), exactly(before))

    def test_arguments_cleared_after_the_call(self):
        for spec in specs() + [rich()]:
            given = copy.deepcopy(spec)
            shape = Shape(*given)
            clear(given)
            self.compare(shape, spec)

    def test_arguments_with_more_put_in_after_the_call(self):
        flags, lists = rich()
        shape = Shape(flags, lists)
        flags.append("more")
        lists["todo"]["fields"]["more"] = ("a", "b")
        lists["todo"]["inner"]["more"] = one()
        lists["todo"]["inner"]["step"]["fields"]["more"] = ("a", "b")
        lists["more"] = one()
        self.compare(shape, rich())

    def test_what_is_returned_is_new(self):
        for spec in specs() + [rich()]:
            shape = Shape(*spec)
            for step in range(2):
                self.compare(shape, spec)
                shape.outer().append("more")
                clear(shape.outer())
                for name in all_lists(spec):
                    shape.inner(name).append("more")
                    clear(shape.inner(name))
                    shape.fields(name)["more"] = ("a", "b")
                    clear(shape.fields(name))
            self.compare(shape, spec)

    def test_no_list(self):
        for spec in specs() + [rich()]:
            shape = Shape(*spec)
            for name in ("", "nolist", "on", "mark", "Todo", "todo ", "red"):
                for method in (shape.inner, shape.fields, shape.parent):
                    self.assertEqual(outcome(method, name), ("NoList", name))
        shape = Shape([], {"todo": one()})
        for method in (shape.inner, shape.fields, shape.parent):
            self.assertEqual(outcome(method, "step"), ("NoList", "step"))


class WrongShapes(Base):
    def told(self, flags, lists):
        """What Shape raises is what the document says, and the arguments stay."""
        before = exactly([flags, lists])
        part = shape_part(flags, lists)
        self.assertEqual(outcome(Shape, flags, lists), part and ("InvalidShape", part), before)
        self.assertEqual(exactly([flags, lists]), before)
        if part is None:
            self.compare(Shape(flags, lists), (flags, lists))

    def raises(self, part, flags, lists):
        self.assertEqual(outcome(Shape, flags, lists), ("InvalidShape", part))

    def test_flags(self):
        for flags in (None, "on", "", {}, {"on": 1}, ["a", "a"], ("a", "a"), ["a", "b", "c"], ["A"], [""], [None],
                      [["a"]], [{}], [True], [1], ["abcdefghi"], ["a1"], ["a", "b "], 5):
            self.raises("flags", flags, {})
        for flags in ([], (), ["abcdefgh"], ("z", "a")):
            self.assertIsNone(outcome(Shape, flags, {}))

    def test_lists(self):
        three = {"a": one(), "b": one(), "c": one()}
        deeper = one({}, {"b": one({}, {"c": one()})})
        for lists in (None, [], ["a"], (), "a", three, {"A": one()}, {1: one()}, {None: one()}, {(1, 2): one()},
                      {"a": None}, {"a": []}, {"a": {}}, {"a": {"fields": {}}}, {"a": {"inner": {}}},
                      {"a": {**one(), "more": 1}}, {"a": {"fields": {}, "inners": {}}},
                      {"a": {"fields": {}, "inner": None}}, {"a": {"fields": {}, "inner": []}},
                      {"a": one({}, {"b": one(), "c": one()})}, {"a": one({}, {"B": one()})},
                      {"a": one({}, {"b": {"fields": {}, "inner": []}})}, {"a": one({}, {"b": {}})},
                      {"a": one({}, {"b": {"fields": {}, "inner": None}})}, {"a": deeper},
                      {"a": one({}, {True: one()})}, {"b": one(), "a": deeper}):
            self.raises("lists", [], lists)

    def test_fields(self):
        for fields in (None, [], (), "", 0, {"A": ("a", "b")}, {None: ("a", "b")}, {"a": ["a", "b"]}, {"a": ("a",)},
                       {"a": ()}, {"a": ("a", "b", "c", "d")}, {"a": ("a", "a")}, {"a": ("a", "b", "a")},
                       {"a": ("a", "B")}, {"a": ("a", None)}, {"a": ("a", ["b"])}, {"a": ("a", {})}, {"a": "ab"},
                       {"a": {"a": 1, "b": 2}}, {"a": None}, {"a": ("a", 1)},
                       {"a": ("a", "b"), "b": ("a", "b"), "c": ("a", "b")}):
            self.raises("fields", [], {"todo": {"fields": fields, "inner": {}}})
            inner = {"step": {"fields": fields, "inner": {}}}
            self.raises("fields", [], {"todo": one({"a": ("a", "b")}, inner)})
            self.raises("fields", [], {"all": one(), "todo": one({}, inner)})

    def test_names(self):
        self.raises("names", [], {"a": one({}, {"a": one()})})
        self.raises("names", [], {"a": one({}, {"b": one()}), "b": one()})
        self.raises("names", [], {"b": one(), "a": one({}, {"b": one()})})
        self.raises("names", [], {"a": one({}, {"c": one()}), "b": one({}, {"c": one()})})

    def test_each_part_over_the_whole_shape_before_the_next(self):
        bad_fields = {"fields": None, "inner": {}}
        bad_inner = {"fields": {}, "inner": None}
        double = one({}, {"a": one()})
        self.raises("flags", ["a", "a"], None)
        self.raises("lists", [], {"a": bad_fields, "b": bad_inner})
        self.raises("lists", [], {"b": bad_inner, "a": bad_fields})
        self.raises("lists", [], {"a": bad_fields, "b": one({}, {"c": bad_inner})})
        self.raises("lists", [], {"a": {"fields": None, "inner": {"c": bad_inner}}})
        self.raises("fields", [], {"a": double, "b": bad_fields})
        self.raises("fields", [], {"a": one({}, {"a": bad_fields})})
        self.raises("flags", None, {"a": double, "b": bad_fields})
        self.raises("lists", [], {"a": double, "b": bad_inner})

    def test_odd_arguments(self):
        for odd in ODD:
            for other in ODD:
                self.told(odd, other)
            self.told(odd, {"a": one()})
            self.told([], odd)

    def test_spoiled_in_one_place(self):
        for flags in variants(["open", "dark"]):
            self.told(flags, {"todo": one()})
        for lists in variants(rich()[1]):
            self.told(["on"], lists)

    def test_spoiled_in_several_places(self):
        dice = random.Random(4)
        bases = [list(spec) for spec in specs()[::3]] + [list(rich())] * 30
        for step in range(4000):
            flags, lists = copy.deepcopy(dice.choice(bases))
            for many in range(dice.choice([1, 2, 2, 3])):
                if dice.random() < 0.15:
                    flags = spoiled(flags, dice)
                else:
                    lists = spoiled(lists, dice)
            self.told(flags, lists)

    def test_an_inner_list_named_like_another_list(self):
        for outer in ("a", "b"):
            for first in ("a", "b", "c", "d"):
                for second in ("a", "b", "c", "d"):
                    lists = {"a": one({}, {first: one()}), "b": one({}, {second: one()})}
                    wrong = first in "ab" or second in "ab" or first == second
                    self.assertEqual(outcome(Shape, [], lists), ("InvalidShape", "names") if wrong else None)


class Equal(unittest.TestCase):
    def test_equal_and_unequal(self):
        every = specs() + [rich()]
        for spec in every:
            for other in every:
                equal = sorted(spec[0]) == sorted(other[0]) and spec[1] == other[1]
                left, right = Shape(*spec), Shape(*other)
                self.assertIs(left == right, equal)
                self.assertIs(left != right, not equal)

    def test_the_order_of_flags_and_keys_means_nothing(self):
        flags, lists = rich()
        turned = {"menu": lists["menu"], "todo": lists["todo"]}
        turned["todo"]["fields"] = dict(sorted(lists["todo"]["fields"].items()))
        self.assertTrue(Shape(tuple(flags[::-1]), turned) == Shape(flags, rich()[1]))
        self.assertFalse(Shape(tuple(flags[::-1]), turned) != Shape(flags, rich()[1]))

    def test_small_differences(self):
        base = Shape(["on"], {"a": one({"f": ("x", "y")}, {"b": one({"g": ("x", "y")})})})
        for flags, lists in (
            (["off"], {"a": one({"f": ("x", "y")}, {"b": one({"g": ("x", "y")})})}),
            ([], {"a": one({"f": ("x", "y")}, {"b": one({"g": ("x", "y")})})}),
            (["on"], {"c": one({"f": ("x", "y")}, {"b": one({"g": ("x", "y")})})}),
            (["on"], {"a": one({"f": ("y", "x")}, {"b": one({"g": ("x", "y")})})}),
            (["on"], {"a": one({"h": ("x", "y")}, {"b": one({"g": ("x", "y")})})}),
            (["on"], {"a": one({"f": ("x", "y", "z")}, {"b": one({"g": ("x", "y")})})}),
            (["on"], {"a": one({"f": ("x", "y")}, {"c": one({"g": ("x", "y")})})}),
            (["on"], {"a": one({"f": ("x", "y")}, {"b": one({"g": ("y", "x")})})}),
            (["on"], {"a": one({"f": ("x", "y")}, {"b": one()})}),
            (["on"], {"a": one({"f": ("x", "y")})}),
            (["on"], {"a": one({"f": ("x", "y")}), "b": one({"g": ("x", "y")})}),
            (["on"], {"b": one({"g": ("x", "y")}, {"a": one({"f": ("x", "y")})})}),
        ):
            other = Shape(flags, lists)
            self.assertFalse(base == other)
            self.assertFalse(other == base)
            self.assertTrue(base != other)
            self.assertTrue(other != base)

    def test_which_list_the_inner_list_is_in(self):
        left = Shape([], {"a": one({}, {"c": one()}), "b": one()})
        right = Shape([], {"a": one(), "b": one({}, {"c": one()})})
        self.assertFalse(left == right)
        self.assertTrue(left != right)

    def test_other_values(self):
        shape = Shape(["on"], {})
        for other in ("shape", ("on",), ["on"], None, {}, 0, True, (("on",), {}), ("on", {})):
            self.assertIs(shape == other, False)
            self.assertIs(other == shape, False)
            self.assertIs(shape != other, True)
            self.assertIs(other != shape, True)


if __name__ == "__main__":
    unittest.main()
