"""Points 14 to 17: rows around, keys, tests and the lists of fors."""

import itertools
import unittest

from statestay.shapes import Shape
from statestay.templates import Template
from expected import right_key, right_test, template_error
from helpers import DEEP, ODD, deep, outcome
from samples import group, one, part, rich

ROWS = [(), ("todo",), ("menu",), ("todo", "step"), ("menu", "bite")]
KEYS = [
    ("word", "w"), ("word", "abcdefgh"), ("id",), ("field", "tone"), ("field", "mark"), ("field", "size"),
    ("field", "dish"), ("field", "none"), ("word", "W"), ("word", ""), ("word", "abcdefghi"), ("word", "a1"),
    ("word", ["w"]), ("word", None), ("word", {}), ("word",), ("word", "w", "w"), ("id", "id"), ("id", 5),
    ("field",), ("field", ["tone"]), ("field", {"tone": 1}), ("field", "tone", "red"), ("field", None),
    ("field", "id"), ("field", "field"), ("word", "id"),
    ("flag", "open"), ("empty", "step"), ("not", ("id",)), (), ["id"], "id", ("Id",), (("id",),), (["id"],),
    (None,), (True,), None,
]
TESTS = [
    ("flag", "open"), ("flag", "dark"), ("flag", "none"), ("flag",), ("flag", "open", "dark"), ("flag", ["open"]),
    ("flag", None), ("flag", {}), ("field", "tone", "red"), ("field", "tone", "new"), ("field", "mark", "new"),
    ("field", "mark", "odd"), ("field", "size", "small"), ("field", "dish", "soup"), ("field", "none", "new"),
    ("field", "tone"), ("field", ["tone"], "red"), ("field", "tone", ["red"]), ("field", {}, {}),
    ("field", "tone", None), ("field", "tone", "red", "red"), ("empty", "todo"), ("empty", "menu"),
    ("empty", "step"), ("empty", "bite"), ("empty", "none"), ("empty",), ("empty", "todo", "todo"),
    ("empty", ["todo"]), ("empty", None), ("empty", {}), (), None, "flag", ["flag", "open"], ("id",), ("word", "w"),
    ("both", ("flag", "open"), ("flag", "open")), ("Flag", "open"), (["flag"], "open"), (True, "open"),
]


def ups(many, inside):
    return deep(many, lambda one_key: ("up", one_key), inside)


def within(rows, item, node=None):
    """Items in which these rows are around the item, and its path."""
    make = node or group
    items, path = [item], (0,)
    for at, name in enumerate(reversed(rows)):
        items, path = [("for", name, items)], (0, 0) + path
        if at < len(rows) - 1:
            items, path = [make(items)], (0, 0) + path
    return items, path


def in_part(items):
    return part("wrap", None, items)


class Base(unittest.TestCase):
    def setUp(self):
        self.spec = rich()
        self.shape = Shape(*self.spec)

    def error(self, items, pieces=None):
        return outcome(Template, self.shape, items, pieces=pieces)

    def raises(self, part_word, path, items):
        self.assertEqual(self.error(items), ("InvalidTemplate", part_word, path), items)

    def holds(self, items):
        self.assertIsNone(self.error(items), items)

    def placed(self, rows, item, right, word):
        """The item is right or wrong where these rows are around it, in several ways to stand there."""
        for node in (group, in_part):
            for items, path in (
                within(rows, item, node),
                within(rows, group([item]), node), within(rows, in_part([item]), node),
                within(rows, ("if", ("flag", "open"), [item], []), node),
                within(rows, ("if", ("flag", "open"), [], [item]), node),
            ):
                while self.at(items, path) != item:
                    inside = self.at(items, path)
                    path += (1, 0) if inside[0] == "if" and not inside[2] else (0, 0)
                expected = None if right else ("InvalidTemplate", word, path)
                self.assertEqual(self.error(items), expected, items)

    def at(self, items, path):
        item = items[path[0]]
        if len(path) == 1:
            return item
        lists = item[2:] if item[0] == "if" else item[-1:]
        return self.at(lists[path[1]], path[2:])


class Keys(Base):
    def test_none_is_a_key_everywhere(self):
        for rows in ROWS:
            self.placed(rows, part("a", None), True, "key")
            self.placed(rows, group([], None), True, "key")

    def test_forms(self):
        for rows in ROWS:
            for key in KEYS:
                right = key is None or right_key(self.spec, key, rows)
                self.placed(rows, part("a", key), right, "key")
                self.placed(rows, group([], key), right, "key")

    def test_literal(self):
        right = {
            (): [("word", "w"), ("both", ("word", "a"), ("word", "a"))],
            ("todo",): [("id",), ("field", "tone"), ("field", "mark"), ("up", ("word", "w")),
                        ("both", ("id",), ("up", ("word", "a")))],
            ("todo", "step"): [("id",), ("field", "size"), ("up", ("id",)), ("up", ("field", "tone")),
                               ("up", ("up", ("word", "w"))), ("both", ("up", ("id",)), ("id",))],
        }
        wrong = {
            (): [("id",), ("field", "tone"), ("up", ("word", "w")), ("both", ("id",), ("word", "w"))],
            ("todo",): [("field", "size"), ("up", ("id",)), ("up", ("field", "tone")), ("up", ("up", ("word", "w")))],
            ("todo", "step"): [("field", "tone"), ("up", ("field", "size")), ("up", ("up", ("id",))),
                               ("up", ("up", ("up", ("word", "w"))))],
            ("menu",): [("field", "tone")],
        }
        for table, holds in ((right, True), (wrong, False)):
            for rows, keys in table.items():
                for key in keys:
                    self.placed(rows, part("a", key), holds, "key")
                    self.placed(rows, group([], key), holds, "key")

    def test_none_within_a_key(self):
        for rows in ROWS:
            for key in (("up", None), ("both", None, ("word", "w")), ("both", ("word", "w"), None), ("word", None),
                        ("both", None, None), ("both", ("both", ("word", "w"), None), ("word", "w")),
                        ("up", ("both", None, ("word", "w")))):
                self.placed(rows, part("a", key), False, "key")

    def test_nested(self):
        for rows in ROWS:
            atoms = [key for key in KEYS[:8] + [None, (), ("id", 1)]]
            several = [("up", key) for key in atoms] + [("up", ("up", key)) for key in atoms]
            several += [("both", left, right) for left, right in itertools.product(atoms, repeat=2)]
            several += [("up", ("both", left, ("id",))) for left in atoms]
            several += [("both", ("up", left), right) for left, right in itertools.product(atoms, repeat=2)]
            several += [("up",), ("up", ("word", "w"), ("word", "w")), ("both",), ("both", ("word", "w")),
                        ("both", ("word", "w"), ("word", "w"), ("word", "w")), ("up", "w"), ("both", "a", "b"),
                        ("up", ["word", "w"]), ("both", ["id"], ["id"])]
            for key in several:
                expected = None if right_key(self.spec, key, rows) else "key"
                for make in (lambda one_key: part("a", one_key), lambda one_key: group([], one_key)):
                    items, path = within(rows, make(key))
                    self.assertEqual(self.error(items), expected and ("InvalidTemplate", expected, path), items)

    def test_four_and_five_deep(self):
        word = ("word", "w")

        def left(many):
            return deep(many - 1, lambda key: ("both", key, word), word)

        def right(many):
            return deep(many - 1, lambda key: ("both", word, key), word)

        for make in (left, right):
            self.holds([part("a", make(4))])
            self.raises("key", (0,), [part("a", make(5))])
            self.raises("key", (0,), [group([], make(5))])
            for rows in ROWS:
                self.placed(rows, part("a", make(4)), True, "key")
                self.placed(rows, part("a", make(5)), False, "key")
        both = ("both", ("id",), word)
        for rows in (("todo", "step"), ("menu", "bite")):
            self.placed(rows, part("a", ups(2, ("both", word, word))), True, "key")
            self.placed(rows, part("a", ups(2, ("both", ("both", word, word), word))), False, "key")
            self.placed(rows, part("a", ups(1, ("both", both, ("id",)))), True, "key")
            self.placed(rows, part("a", ("both", ups(1, both), both)), True, "key")
            self.placed(rows, part("a", ("both", ups(1, ("both", both, both)), both)), False, "key")
            self.placed(rows, part("a", ups(4, word)), False, "key")

    def test_odd_keys(self):
        for rows in ROWS:
            for odd in ODD + DEEP:
                right = odd is None or right_key(self.spec, odd, rows)
                self.placed(rows, part("a", odd), right, "key")
                for key in (("word", odd), ("field", odd), ("up", odd), ("both", ("word", "w"), odd),
                            ("both", odd, ("word", "w")), (odd,), (odd, "w"), (odd, odd, odd)):
                    items, path = within(rows, part("a", key))
                    expected = None if right_key(self.spec, key, rows) else ("InvalidTemplate", "key", path)
                    self.assertEqual(self.error(items), expected, items)

    def test_a_key_of_a_for_stands_within_it_only(self):
        self.raises("key", (1,), [("for", "todo", []), part("a", ("id",))])
        items = [("for", "todo", [group([("for", "step", [])]), part("a", ("field", "size"))])]
        self.raises("key", (0, 0, 1), items)
        self.holds([("for", "todo", [group([("for", "step", [])]), part("a", ("field", "tone"))])])


class Tests(Base):
    def test_forms(self):
        for rows in ROWS:
            for test in TESTS:
                right = right_test(self.spec, test, rows)
                self.placed(rows, ("if", test, [part("in")], []), right, "test")

    def test_literal(self):
        right = {
            (): [("flag", "open"), ("empty", "todo"), ("not", ("empty", "menu"))],
            ("todo",): [("flag", "open"), ("field", "tone", "blue"), ("empty", "step"), ("up", ("empty", "todo")),
                        ("up", ("flag", "dark"))],
            ("menu",): [("empty", "bite"), ("field", "dish", "cake")],
            ("todo", "step"): [("field", "mark", "odd"), ("up", ("empty", "step")), ("up", ("field", "mark", "old")),
                               ("up", ("up", ("empty", "menu")))],
        }
        wrong = {
            (): [("flag", "mark"), ("empty", "step"), ("field", "tone", "red"), ("up", ("flag", "open"))],
            ("todo",): [("field", "tone", "new"), ("empty", "todo"), ("empty", "bite"), ("up", ("empty", "step")),
                        ("up", ("field", "tone", "red")), ("up", ("up", ("flag", "open")))],
            ("todo", "step"): [("empty", "step"), ("empty", "todo"), ("up", ("field", "mark", "odd")),
                               ("field", "tone", "red"), ("up", ("up", ("up", ("flag", "open"))))],
        }
        for table, holds in ((right, True), (wrong, False)):
            for rows, several in table.items():
                for test in several:
                    self.placed(rows, ("if", test, [part("in")], []), holds, "test")
                    self.placed(rows, ("if", ("not", test), [part("in")], []), holds, "test")

    def test_nested(self):
        for rows in ROWS:
            several = [("up", test) for test in TESTS] + [("not", test) for test in TESTS]
            several += [("up", ("up", test)) for test in TESTS] + [("not", ("up", test)) for test in TESTS]
            several += [("up", ("not", test)) for test in TESTS]
            several += [("up",), ("not",), ("not", ("flag", "open"), ("flag", "open")), ("not", None), ("up", None),
                        ("up", ("flag", "open"), ("flag", "open")), ("not", ["flag", "open"]), ("not", "flag")]
            for test in several:
                items, path = within(rows, ("if", test, [], []))
                expected = None if right_test(self.spec, test, rows) else ("InvalidTemplate", "test", path)
                self.assertEqual(self.error(items), expected, items)

    def test_four_and_five_deep(self):
        def nots(many, inside=("flag", "open")):
            return deep(many - 1, lambda test: ("not", test), inside)

        for rows in ROWS:
            self.placed(rows, ("if", nots(4), [part()], []), True, "test")
            self.placed(rows, ("if", nots(5), [part()], []), False, "test")
        for rows in (("todo", "step"), ("menu", "bite")):
            self.placed(rows, ("if", ups(2, nots(2)), [part()], []), True, "test")
            self.placed(rows, ("if", ups(2, nots(3)), [part()], []), False, "test")
            self.placed(rows, ("if", ("not", ups(2, ("empty", "todo"))), [part()], []), True, "test")

    def test_odd_tests(self):
        for rows in ROWS:
            for odd in ODD + DEEP:
                for test in (odd, ("flag", odd), ("empty", odd), ("field", odd, "red"), ("field", "tone", odd),
                             ("up", odd), ("not", odd), (odd,), (odd, "open"), (odd, odd, odd)):
                    items, path = within(rows, ("if", test, [part()], []))
                    expected = None if right_test(self.spec, test, rows) else ("InvalidTemplate", "test", path)
                    self.assertEqual(self.error(items), expected, items)


class Fors(Base):
    def test_the_list_of_a_for(self):
        for rows in ROWS:
            if len(rows) < 2:
                for name in ("todo", "menu", "step", "bite", "none", "Todo", "", None, 5, True, ["todo"], {}, ()):
                    inner = group([("for", name, [])])
                    here = {(): ["todo", "menu"], ("todo",): ["step"], ("menu",): ["bite"]}[rows]
                    items, path = within(rows, inner)
                    right = any(name == each for each in here)
                    expected = None if right else ("InvalidTemplate", "list", path + (0, 0))
                    self.assertEqual(self.error(items), expected)

    def test_odd_lists(self):
        for odd in ODD:
            expected = None if isinstance(odd, str) and odd == "todo" else ("InvalidTemplate", "list", (0,))
            self.assertEqual(self.error([("for", odd, [])]), expected)

    def test_nothing_within_an_inner_list(self):
        for name in ("todo", "step", "bite"):
            items, path = within(("todo", "step"), group([("for", name, [])]))
            self.raises("list", path + (0, 0), items)

    def test_a_list_is_gone_through_once(self):
        todo = ("for", "todo", [])
        self.raises("list", (1,), [todo, todo])
        self.raises("list", (2,), [todo, ("for", "menu", []), todo])
        self.raises("list", (1, 0, 0), [todo, group([todo])])
        self.raises("list", (1,), [group([todo]), todo])
        self.raises("list", (0, 1, 0), [("if", ("flag", "open"), [todo], [todo])])
        self.raises("list", (1, 1, 0), [todo, ("if", ("flag", "open"), [], [todo])])
        step = ("for", "step", [])
        self.raises("list", (0, 0, 1, 0, 0), [("for", "todo", [group([step]), group([step])])])
        self.raises("list", (0, 0, 0, 0, 1), [("for", "todo", [group([step, step])])])
        self.holds([todo, ("for", "menu", [])])
        self.holds([("for", "todo", [group([step])]), ("for", "menu", [group([("for", "bite", [])])])])

    def test_a_node_between_two_fors(self):
        step = ("for", "step", [part()])
        flag = ("flag", "open")
        self.holds([("for", "todo", [part("a", None, [step])])])
        self.holds([("for", "todo", [group([step])])])
        self.holds([("for", "todo", [("if", flag, [group([step])], [])])])
        self.holds([("for", "todo", [group([("if", flag, [], [step])])])])
        self.raises("list", (0, 0, 0), [("for", "todo", [step])])
        self.raises("list", (0, 0, 1), [("for", "todo", [group(), step])])
        self.raises("list", (0, 0, 0, 0, 0), [("for", "todo", [("if", flag, [step], [])])])
        self.raises("list", (0, 0, 0, 1, 0), [("for", "todo", [("if", flag, [], [step])])])
        inner = ("if", flag, [("if", flag, [step], [])], [])
        self.raises("list", (0, 0, 0, 0, 0, 0, 0), [("for", "todo", [inner])])
        self.raises("list", (0, 0, 0, 0, 0), [group([("for", "todo", [step])])])

    def test_a_group_around_the_outer_for_does_not_help(self):
        self.raises("list", (0, 0, 0, 0, 0), [group([("for", "menu", [("for", "bite", [])])])])

    def test_a_piece_makes_no_node(self):
        items = [("for", "todo", [("piece", "frame", [("for", "step", [])])])]
        self.assertEqual(self.error(items, {"frame": [("slot",)]}), ("InvalidTemplate", "list", (0, 0, 0)))
        self.assertIsNone(self.error(items, {"frame": [group([("slot",)])]}))
        self.assertIsNone(self.error(items, {"frame": []}))

    def test_a_list_in_a_piece_that_is_used_twice(self):
        pieces = {"all": [("for", "todo", [])]}
        self.assertIsNone(self.error([("piece", "all", [])], pieces))
        self.assertEqual(self.error([("piece", "all", [])] * 2, pieces), ("InvalidTemplate", "list", (1,)))


class TwoThingsWrong(Base):
    def test_two_in_either_order(self):
        wrong = {
            "kind": part("Ab"), "key": part("a", ("id",)), "test": ("if", ("flag", "none"), [], []),
            "list": ("for", "step", []),
        }
        for first, second in itertools.product(wrong, repeat=2):
            self.raises(first, (1,), [part(), wrong[first], wrong[second]])
            self.raises(first, (0, 0, 0), [group([wrong[first]]), wrong[second]])
            self.raises(first, (0, 0, 0), [("if", ("flag", "open"), [wrong[first]], [wrong[second]])])
            self.raises(first, (0, 1, 0), [("if", ("flag", "open"), [], [wrong[first]]), wrong[second]])

    def test_an_item_before_the_items_in_its_lists(self):
        bad = part("Ab", 5)
        self.raises("kind", (0,), [part("", 5, [bad])])
        self.raises("key", (0,), [part("a", 5, [bad])])
        self.raises("key", (0,), [group([bad], ("id",))])
        self.raises("test", (0,), [("if", None, [bad], [bad])])
        self.raises("list", (0,), [("for", "none", [bad])])
        self.raises("kind", (0, 0, 0), [("for", "todo", [bad])])

    def test_against_the_document(self):
        parts = [part(), part("Ab"), part("a", ("id",)), group([], ("id",)), ("if", ("empty", "step"), [], [part()]),
                 ("for", "step", []), ("for", "todo", [part("a", ("id",))]), ("for", "menu", [group()])]
        for several in itertools.product(parts, repeat=2):
            for items in (list(several), [group([several[0]]), several[1]], [("for", "todo", list(several))],
                          [("for", "todo", [group(several)])], [("if", ("flag", "dark"), [several[0]], [several[1]])]):
                expected = template_error(self.spec, items, None)
                self.assertEqual(self.error(items), expected and ("InvalidTemplate", *expected), items)


class SameNames(unittest.TestCase):
    def test_a_name_of_a_flag_a_field_and_a_list(self):
        lists = {"todo": one({"todo": ("todo", "b")}, {"step": one({"todo": ("b", "c")})})}
        shape = Shape(["todo"], lists)
        items = [("if", ("flag", "todo"), [], []), ("if", ("empty", "todo"), [], [])]
        self.assertIsNone(outcome(Template, shape, items))
        items = [("for", "todo", [("if", ("field", "todo", "todo"), [], [])])]
        self.assertIsNone(outcome(Template, shape, items))
        items = [("for", "todo", [group([("for", "step", [("if", ("field", "todo", "todo"), [], [])])])])]
        self.assertEqual(outcome(Template, shape, items), ("InvalidTemplate", "test", (0, 0, 0, 0, 0, 0, 0)))

    def test_fields_named_like_the_words_of_keys_and_tests(self):
        lists = {"todo": one({"id": ("up", "not"), "field": ("id", "word")}), "menu": one()}
        shape = Shape(["empty", "flag"], lists)
        right = [part("a", ("field", "id")), part("a", ("field", "field")), part("part", ("word", "word")),
                 ("if", ("field", "id", "not"), [], []), ("if", ("field", "field", "id"), [], []),
                 ("if", ("up", ("flag", "empty")), [], []), ("if", ("not", ("flag", "flag")), [], [])]
        for item in right:
            self.assertIsNone(outcome(Template, shape, [("for", "todo", [item])]))
        for item in right[:2]:
            self.assertEqual(outcome(Template, shape, [("for", "menu", [item])]), ("InvalidTemplate", "key", (0, 0, 0)))

    def test_a_shape_without_anything(self):
        shape = Shape([], {})
        for test in (("flag", "on"), ("empty", "todo"), ("field", "mark", "new")):
            self.assertEqual(outcome(Template, shape, [("if", test, [], [])]), ("InvalidTemplate", "test", (0,)))
        self.assertEqual(outcome(Template, shape, [("for", "todo", [])]), ("InvalidTemplate", "list", (0,)))
        self.assertIsNone(outcome(Template, shape, []))


if __name__ == "__main__":
    unittest.main()
