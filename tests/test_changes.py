"""Deeds, what they lead to, and all deeds for some data (points 45 to 47)."""

import copy
import random
import unittest

import chance
import expected
import expected_changes
from expected_changes import PARTS, deed_error, every_deed, taken_back, wheres
from helpers import DEEP, ODD, ODD_KEYS, clear, exactly, outcome, spoiled, variants
from samples import one, rich, rich_data
from statestay import changes as module
from statestay.changes import SORTS, apply, changes
from statestay.shapes import Shape, check

ALL = ["append", "cut", "insert", "remove", "move", "field", "flag"]


def some_deed(dice, spec, data):
    """A deed of any sort that fits the data or misses them by little."""
    sort = dice.choice(ALL)
    if sort == "flag":
        return (sort, dice.choice(list(spec[0]) + ["zz"] * (dice.random() < 0.1 or not spec[0])))
    where, (shape, rows) = dice.choice(list(wheres(spec, data).items()))
    many = len(rows)
    at = dice.randint(-1, many + 1) if dice.random() < 0.1 or not many else dice.randrange(many)
    row = chance.row(dice, shape, dice.randrange(12), 2, 3)
    if sort == "move":
        return (sort, where, at, dice.randrange(many) if many else 0)
    if sort == "field":
        fields = sorted(shape["fields"]) or ["zz"]
        field = dice.choice(fields)
        return (sort, where, at, field, dice.choice(shape["fields"].get(field, ("new",))))
    return {"append": (sort, where, row), "cut": (sort, where), "remove": (sort, where, at),
            "insert": (sort, where, dice.randint(0, many), row)}[sort]


class Case(unittest.TestCase):
    def compare(self, spec, shape, data, deed):
        """Compare with the second writing; the data after the deed, or None if it raises."""
        before = exactly([data, deed])
        wanted = deed_error(spec, data, deed)
        told = outcome(apply, shape, data, deed)
        self.assertEqual(exactly(told), exactly(wanted), (data, deed))
        self.assertEqual(exactly([data, deed]), before)
        if wanted is not None:
            return None
        after = apply(shape, data, deed)
        self.assertEqual(exactly(after), exactly(expected_changes.done(spec, data, deed)))
        self.assertEqual(exactly([data, deed]), before)
        return after


class Apply(Case):
    def test_sorts(self):
        self.assertEqual(exactly(SORTS), exactly(tuple(ALL)))

    def test_long_series_and_back(self):
        dice = random.Random(45)
        sorts = []
        for spec in chance.specs():
            shape = Shape(*spec)
            first = chance.data(dice, spec)
            data = copy.deepcopy(first)
            steps = []
            for turn in range(300):
                deed = some_deed(dice, spec, data)
                after = self.compare(spec, shape, data, deed)
                if after is not None:
                    check(shape, after)
                    back = taken_back(spec, data, deed)
                    self.assertEqual(exactly(apply(shape, after, back)), exactly(data))
                    steps.append(back)
                    sorts.append(deed[0])
                    data = after
            for back in reversed(steps):
                data = apply(shape, data, back)
            self.assertEqual(exactly(data), exactly(first))
        self.assertTrue(all(sorts.count(sort) > 20 for sort in ALL))

    def test_each_sort(self):
        spec = (["on"], {"todo": one({"mark": ("new", "old")}, {"step": one()})})
        shape = Shape(*spec)
        step = {"id": 5, "fields": {}, "lists": {}}
        rows = [{"id": number, "fields": {"mark": "new"}, "lists": {"step": []}} for number in (5, 3)]
        data = {"flags": {"on": True}, "lists": {"todo": rows}}
        more = {"id": 0, "fields": {"mark": "old"}, "lists": {"step": [step]}}
        for deed in (("append", ("todo",), more), ("cut", ("todo",)), ("insert", ("todo",), 0, more),
                     ("insert", ("todo",), 2, more), ("remove", ("todo",), 1), ("move", ("todo",), 0, 1),
                     ("move", ("todo",), 1, 1), ("field", ("todo",), 1, "mark", "old"),
                     ("field", ("todo",), 1, "mark", "new"), ("flag", "on"), ("append", ("todo", 3, "step"), step),
                     ("insert", ("todo", 5, "step"), 0, step)):
            self.assertIsNotNone(self.compare(spec, shape, data, deed))
        for deed, reason in (
            ((), "form"), ("cut", "form"), (["cut", ("todo",)], "form"), (("cut",), "form"), (("drop", ("todo",)), "form"),
            (("cut", ("todo",), 0), "form"), (("flag", "on", True), "form"), (("cut", "todo"), "where"),
            (("cut", ["todo"]), "where"), (("cut", ("step",)), "where"), (("cut", ("todo", 5)), "where"),
            (("cut", ("todo", 4, "step")), "where"), (("cut", ("todo", 0, "step")), "where"),
            (("cut", ("todo", True, "step")), "where"), (("cut", ("todo", 5, "todo")), "where"), (("cut", ()), "where"),
            (("cut", ("todo", 5, "step")), "index"), (("remove", ("todo",), 2), "index"),
            (("remove", ("todo",), -1), "index"), (("remove", ("todo",), True), "index"),
            (("insert", ("todo",), 3, None), "index"), (("insert", ("todo",), 2, None), "row"),
            (("insert", ("todo",), 2, {**more, "id": 3}), "row"), (("append", ("todo",), {**more, "id": True}), "row"),
            (("move", ("todo",), 0, 2), "index"), (("move", ("todo",), 2, 0), "index"),
            (("move", ("todo",), 0, False), "index"), (("append", ("todo", 5, "step"), more), "row"),
            (("append", ("todo",), {**more, "lists": {"step": [step, step]}}), "row"),
            (("field", ("todo",), 2, "zz", "zz"), "index"), (("field", ("todo",), 1, "zz", "zz"), "field"),
            (("field", ("todo",), 1, "mark", "zz"), "word"), (("field", ("todo", 5, "step"), 0, "mark", "new"), "index"),
            (("flag", "off"), "flag"), (("flag", True), "flag"), (("flag", []), "flag"),
        ):
            self.assertEqual(outcome(apply, shape, data, deed), ("InvalidDeed", reason), deed)
            self.compare(spec, shape, data, deed)

    def test_an_id_that_equals_true(self):
        spec = ([], {"todo": one({}, {"step": one()})})
        row = {"id": 1, "fields": {}, "lists": {"step": []}}
        data = {"flags": {}, "lists": {"todo": [row]}}
        step = {"id": 1, "fields": {}, "lists": {}}
        self.assertIsNotNone(self.compare(spec, Shape(*spec), data, ("append", ("todo", 1, "step"), step)))
        told = outcome(apply, Shape(*spec), data, ("append", ("todo", True, "step"), step))
        self.assertEqual(told, ("InvalidDeed", "where"))
        told = outcome(apply, Shape(*spec), data, ("append", ("todo", 1, "step"), {**step, "id": True}))
        self.assertEqual(told, ("InvalidDeed", "row"))

    def deeds(self):
        """Deeds of all sorts that fit the rich data."""
        step = {"id": 9, "fields": {"size": "small", "mark": "odd"}, "lists": {}}
        row = {"id": 8, "fields": {"tone": "blue", "mark": "old"}, "lists": {"step": [step, {**step, "id": 3}]}}
        return [("append", ("todo",), row), ("insert", ("todo", 0, "step"), 1, step), ("cut", ("menu", 5, "bite")),
                ("remove", ("todo",), 2), ("move", ("todo", 0, "step"), 1, 0),
                ("field", ("todo", 5, "step"), 0, "size", "large"), ("flag", "dark")]

    def test_one_part_odd(self):
        spec, data = rich(), rich_data()
        shape = Shape(*spec)
        for deed in self.deeds():
            self.assertIsNotNone(self.compare(spec, shape, data, deed))
            for wrong in variants(deed):
                self.compare(spec, shape, data, wrong)

    def test_several_parts_odd(self):
        spec, data = rich(), rich_data()
        shape = Shape(*spec)
        dice = random.Random(46)
        odd = ODD + ODD_KEYS + DEEP
        reasons = []
        for turn in range(4000):
            deed = dice.choice(self.deeds())
            for step in range(dice.randint(0, 3)):
                what = dice.random()
                parts = list(deed) if type(deed) is tuple else [deed]
                if what < 0.45 or not parts:
                    deed = spoiled(deed, dice)
                    continue
                at = dice.randrange(len(parts))
                if what < 0.85:
                    parts[at] = dice.choice(odd)
                elif what < 0.92:
                    parts.pop(at)
                else:
                    parts.insert(at, dice.choice(odd))
                deed = tuple(parts)
            if self.compare(spec, shape, data, deed) is None:
                reasons.append(outcome(apply, shape, data, deed)[1])
        self.assertEqual(sorted(set(reasons)), ["field", "flag", "form", "index", "row", "where", "word"])

    def test_wrong_data_come_first(self):
        spec = rich()
        shape = Shape(*spec)
        dice = random.Random(47)
        deeds = self.deeds() + [None, (), ("cut",), ("cut", None), ("flag", 3), ("remove", ("todo",), 99)]
        for turn in range(600):
            data = spoiled(rich_data(), dice)
            self.compare(spec, shape, data, dice.choice(deeds))

    def test_300_rows(self):
        spec = ([], {"todo": one({}, {"step": one()})})
        shape = Shape(*spec)
        step = {"id": 999, "fields": {}, "lists": {}}
        for many in range(297, 303):
            rows = [{"id": at, "fields": {}, "lists": {"step": []}} for at in range(many - 10)]
            rows[3]["lists"]["step"] = [{"id": at, "fields": {}, "lists": {}} for at in range(10)]
            data = {"flags": {}, "lists": {"todo": rows}}
            for inner in range(4):
                steps = [{**step, "id": at} for at in range(inner)]
                row = {"id": 999, "fields": {}, "lists": {"step": steps}}
                told = outcome(apply, shape, data, ("append", ("todo",), row))
                wanted = None if many + 1 + inner <= 300 else ("InvalidDeed", "row")
                self.assertEqual(told, ("LimitExceeded", 300) if many > 300 else wanted)
                self.compare(spec, shape, data, ("insert", ("todo",), 5, row))
            self.compare(spec, shape, data, ("append", ("todo", 3, "step"), step))
            self.compare(spec, shape, data, ("cut", ("todo", 3, "step")))
            self.compare(spec, shape, data, ("move", ("todo",), 0, many - 11))
            self.compare(spec, shape, data, None)
        many = [{"id": at, "fields": {}, "lists": {}} for at in range(400)]
        row = {"id": 999, "fields": {}, "lists": {"step": many}}
        self.assertEqual(outcome(apply, shape, {"flags": {}, "lists": {"todo": []}}, ("append", ("todo",), row)),
                         ("InvalidDeed", "row"))

    def test_the_result_is_new(self):
        spec = rich()
        shape = Shape(*spec)
        for deed in copy.deepcopy(self.deeds()):
            data = rich_data()
            deed = copy.deepcopy(deed)
            after = apply(shape, data, deed)
            wanted = exactly(after)
            held = [id(value) for value in containers([data, deed])]
            self.assertFalse([value for value in containers(after) if id(value) in held])
            self.assertEqual(len({id(value) for value in containers(after)}), len(containers(after)))
            clear(data)
            clear(deed)
            self.assertEqual(exactly(after), wanted)


def containers(value):
    """All lists and dicts in a value."""
    found = [value] if isinstance(value, (list, dict)) else []
    if isinstance(value, (list, tuple, dict)):
        for inner in value.values() if isinstance(value, dict) else value:
            found.extend(containers(inner))
    return found


SMALL = [
    ([], {}), (["on"], {}), (["on", "dark"], {"todo": one()}), ([], {"todo": one({"mark": ("new", "old", "odd")})}),
    (["on"], {"todo": one({"mark": ("new", "old")}, {"step": one()})}),
    ([], {"todo": one({}, {"step": one({"size": ("a", "b")})}), "menu": one()}),
]


class Changes(Case):
    def right(self, spec, data, sorts, most):
        shape = Shape(*spec)
        before = exactly([data, sorts])
        told = list(changes(shape, data, sorts, most))
        wanted = [deed for deed in every_deed(spec, data, most) if deed[0] in sorts]
        self.assertEqual(sorted(map(exactly, told)), sorted(map(exactly, wanted)))
        self.assertEqual(len(set(map(exactly, told))), len(told))
        self.assertEqual(exactly([data, sorts]), before)
        for deed in told:
            self.assertIsNone(outcome(apply, shape, data, deed))
        return told

    def test_all_deeds_and_each_sort_by_itself(self):
        dice = random.Random(47)
        for turn in range(40):
            spec = SMALL[turn % len(SMALL)]
            most = dice.choice([1, 2])
            data = chance.data(dice, spec, dice.choice([1, 2, 3]), 4)
            self.right(spec, data, ALL, most)
            for sort in ALL:
                self.right(spec, data, [sort], most)
            self.right(spec, data, [], most)
            self.right(spec, data, dice.sample(ALL, 3), most)

    def test_most_rows(self):
        spec = ([], {"todo": one()})
        for most in (1, 2, 3):
            for many in range(6):
                rows = [{"id": at + 2, "fields": {}, "lists": {}} for at in range(many)]
                told = self.right(spec, {"flags": {}, "lists": {"todo": rows}}, ALL, most)
                numbers = [deed[-1]["id"] for deed in told if deed[0] == "append"]
                free = [number for number in range(1, most + 2) if not 2 <= number < many + 2]
                self.assertEqual(sorted(numbers), free if many < most else [])

    def test_three_rows_in_inner_lists(self):
        spec = ([], {"todo": one({}, {"step": one()})})
        told = self.right(spec, {"flags": {}, "lists": {"todo": []}}, ["append"], 3)
        self.assertEqual(len(told), 4 * (1 + 4 + 12 + 24))

    def test_larger_data(self):
        spec = rich()
        self.right(spec, rich_data(), ["cut", "remove", "move", "field", "flag"], 1)
        spec = (["on"], {"todo": one({"mark": ("new", "old")}, {"step": one({"mark": ("new", "old")})})})
        dice = random.Random(48)
        self.right(spec, chance.data(dice, spec, 9, 30), ALL, 2)

    def test_a_deed_may_be_changed_while_others_are_to_come(self):
        spec = (["on"], {"todo": one({"mark": ("new", "old")}, {"step": one()})})
        shape = Shape(*spec)
        data = chance.data(random.Random(3), spec, 1, 3)
        wanted = [exactly(deed) for deed in changes(shape, data, ALL, 2)]
        told = []
        for deed in changes(shape, data, ALL, 2):
            told.append(exactly(deed))
            clear(deed)
        self.assertEqual(told, wanted)
        several = list(changes(shape, data, ALL, 2))
        held = [id(value) for deed in several for value in containers(deed)]
        self.assertEqual(len(set(held)), len(held))

    def test_data_may_be_changed_while_deeds_are_to_come(self):
        spec = (["on"], {"todo": one({"mark": ("new", "old")}, {"step": one()})})
        shape = Shape(*spec)
        steps = [{"id": 4, "fields": {}, "lists": {}}]
        rows = [{"id": number, "fields": {"mark": "new"}, "lists": {"step": steps[number:]}} for number in range(2)]
        data = {"flags": {"on": True}, "lists": {"todo": rows}}
        sorts = list(ALL)
        wanted = [exactly(deed) for deed in changes(shape, data, ALL, 3)]
        made = module.changes(shape, data, sorts, 3)
        told = [exactly(next(made))]
        clear(data)
        clear(sorts)
        self.assertEqual(told + [exactly(deed) for deed in made], wanted)

    def test_the_order_of_sorts_means_nothing(self):
        spec = SMALL[4]
        data = chance.data(random.Random(5), spec, 2, 3)
        told = [sorted(exactly(deed) for deed in changes(Shape(*spec), data, sorts, 2))
                for sorts in (ALL, ALL[::-1], ALL[3:] + ALL[:3])]
        self.assertEqual(told[0], told[1])
        self.assertEqual(told[0], told[2])

    def test_a_generator(self):
        shape = Shape(["on"], {"todo": one({"f": ("x", "y", "z"), "g": ("x", "y", "z")}, {"step": one(
            {"f": ("x", "y", "z"), "g": ("x", "y", "z")})})})
        data = {"flags": {"on": True}, "lists": {"todo": []}}
        made = module.changes(shape, data, ["append", "flag"], 3)
        self.assertEqual(iter(made), made)
        self.assertEqual(next(made)[:2], ("append", ("todo",)))

    def test_data_that_are_none(self):
        shape = Shape(*SMALL[2])
        for wrong in (None, {}, {"flags": {}, "lists": {}}):
            told = outcome(lambda: list(changes(shape, wrong, ALL, 2)))
            self.assertEqual(told, expected.data_error(SMALL[2], wrong))


if __name__ == "__main__":
    unittest.main()
