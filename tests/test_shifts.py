"""Lists of labels and shifts (points 35, 36 and 39)."""

import copy
import itertools
import random
import time
import unittest

import expected_moves
from helpers import DEEP, ODD, clear, deep, exactly, outcome, spoiled, variants
from statestay.moves import done, least_moves, shifts

# Labels of all kinds, no two of them equal.
LABELS = [1, "1", (1,), ("1",), 0, "", (), -1, "-1", 10 ** 30, -10 ** 30, 16 ** 5000, "a", "A", "a,b", ("a", "b"),
          ("a,b",), (("a", "b"),), ("a", ("b",)), (("a",), "b"), "\u00e9", "\n", "'", "('a', 'b')", ("row", None, 0),
          ("row", None, 1), (None, None, 0), ("row", ("id", 1), 0), ("row", ("id", "1"), 0), ("None",), (None,),
          deep(50, lambda one: (one,)), deep(51, lambda one: (one,)), "1:1", (1, 1), (11,), "11", 11, ("1", 1), (1, "1")]


class Done(unittest.TestCase):
    def test_each_form(self):
        row = ["a", "b", "c"]
        for shift, wanted in (
            (("remove", 0), ["b", "c"]), (("remove", 1), ["a", "c"]), (("remove", 2), ["a", "b"]),
            (("move", 0, 2), ["b", "c", "a"]), (("move", 2, 0), ["c", "a", "b"]), (("move", 0, 1), ["b", "a", "c"]),
            (("move", 1, 1), ["a", "b", "c"]), (("insert", 0, "d"), ["d", "a", "b", "c"]),
            (("insert", 3, "d"), ["a", "b", "c", "d"]), (("insert", 1, "d"), ["a", "d", "b", "c"]),
        ):
            self.assertEqual(exactly(done(row, [shift])), exactly(wanted))
        self.assertEqual(row, ["a", "b", "c"])

    def test_one_after_another(self):
        self.assertEqual(done([], []), [])
        self.assertEqual(done([], [("insert", 0, 1), ("insert", 1, "1"), ("move", 0, 1), ("remove", 0)]), [1])
        # A label that is removed can be inserted again, and one that was inserted cannot.
        self.assertEqual(done(["a"], [("remove", 0), ("insert", 0, "a")]), ["a"])
        several = [("insert", 0, "b"), ("insert", 2, "b")]
        self.assertEqual(outcome(done, ["a"], several), ("InvalidShift", ("insert", 2, "b")))

    def test_indexes_out_of_range(self):
        for many in range(4):
            row = list("abcd"[:many])
            for at in range(-3, many + 3):
                last = many - 1
                self.assertEqual(outcome(done, row, [("remove", at)]) is None, 0 <= at <= last)
                self.assertEqual(outcome(done, row, [("insert", at, "z")]) is None, 0 <= at <= many)
                for to in range(-3, many + 3):
                    fine = 0 <= at <= last and 0 <= to <= last
                    told = None if fine else ("InvalidShift", ("move", at, to))
                    self.assertEqual(outcome(done, row, [("move", at, to)]), told)

    def test_truth_values_are_no_indexes(self):
        for wrong in (True, False):
            for shift in (("remove", wrong), ("move", wrong, 0), ("move", 0, wrong), ("insert", wrong, "z")):
                self.assertEqual(exactly(outcome(done, ["a", "b"], [shift])), exactly(("InvalidShift", shift)))

    def test_labels_of_all_kinds_are_different(self):
        for label in LABELS:
            rest = [one for one in LABELS if one != label]
            self.assertEqual(len(rest), len(LABELS) - 1)
            self.assertEqual(exactly_long(done(rest, [("insert", 3, label)])), exactly_long(rest[:3] + [label] + rest[3:]))
            shift = ("insert", 0, copy.deepcopy(label))
            self.assertTrue(outcome(done, LABELS, [shift]) == ("InvalidShift", shift))

    def test_odd_shifts(self):
        row = ["a", "b", (1,)]
        for good in (("remove", 1), ("move", 0, 2), ("insert", 3, "z")):
            for shift in variants(good):
                self.compare(row, [shift])
        for odd in ODD + DEEP + [[], [("remove", 0)], "remove", ("remove",), ("cut", 0), ("remove", 0, 0), ("move", 0)]:
            self.compare(row, [odd])
            self.compare(row, [("remove", 0), odd, ("remove", 7)])

    def test_long_series(self):
        dice = random.Random(35)
        for turn in range(400):
            row = dice.sample(LABELS, dice.randint(0, 6))
            several = [some_shift(dice, 6) for step in range(dice.randint(1, 8))]
            if turn % 2:
                several = [spoiled(shift, dice) if dice.random() < 0.2 else shift for shift in several]
            self.compare(row, several)

    def compare(self, row, several):
        """Compare with the second writing, unless a label is of no kind that labels have."""
        for shift in several:
            if type(shift) is tuple and len(shift) == 3 and shift[0] == "insert":
                if not (type(shift[2]) is tuple or type(shift[2]) in (int, str)):
                    return
        before = exactly_long([row, several])
        wanted = expected_moves.all_shifted(list(row), several)
        told = outcome(done, row, several)
        if told is None:
            self.assertEqual(exactly_long(done(row, several)), exactly_long(wanted))
        else:
            self.assertEqual(exactly_long(told), exactly_long(wanted))
        self.assertEqual(exactly_long([row, several]), before)

    def test_tuples_of_all_values(self):
        labels = [(1, {"a": [1], "b": None}), (1, {"a": [1], "b": 0}), (1, {"a": (1,), "b": None}), (1, {"a": [1]}),
                  (1, [("a", [1]), ("b", None)]), (1, {"b": [1], "a": None}), ({1: 2},), ({2: 1},), ([1, 2],), ([(1, 2)],)]
        self.assertTrue(done(labels, []) == labels)
        for at, label in enumerate(labels):
            rest = labels[:at] + labels[at + 1:]
            result = done(rest, [("insert", 0, label)])
            self.assertTrue(result == [label] + rest)
            self.assertFalse(result[0][-1] is label[-1])
            self.assertFalse(result[1][-1] is rest[0][-1])
            self.assertEqual(shifts(rest, [label] + rest), [("insert", 0, label)])
            self.assertFalse(shifts([], [label])[0][2][-1] is label[-1])
        again = ("insert", 2, (1, {"b": None, "a": [1]}))
        self.assertEqual(outcome(done, labels, [again]), ("InvalidShift", again))
        self.assertEqual(least_moves([labels[0], "a"], ["a", (1, {"b": None, "a": [1]})]), 1)

    def test_the_result_is_new(self):
        row = ["a", "b"]
        result = done(row, [])
        self.assertEqual(result, row)
        clear(result)
        self.assertEqual(row, ["a", "b"])


def exactly_long(value):
    """As exactly, also with integers that Python does not write in tens."""
    if type(value) in (list, tuple):
        return type(value).__name__ + "(" + ", ".join([exactly_long(one) for one in value]) + ")"
    return hex(value) if type(value) is int else exactly(value)


def some_shift(dice, most):
    """A shift that may fit or not."""
    form = dice.choice(["remove", "move", "insert", "insert"])
    at = dice.randint(-1, most)
    if form == "remove":
        return (form, at)
    return (form, at, dice.randint(-1, most) if form == "move" else dice.choice(LABELS))


class Shifts(unittest.TestCase):
    def right(self, old, new):
        """Check the shifts and the least moves from one list to another."""
        before = exactly_long([old, new])
        several = shifts(old, new)
        self.assertTrue(expected_moves.fits(old, new, several), (old, new, several))
        self.assertTrue(done(old, several) == new)
        self.assertEqual(least_moves(old, new), len([shift for shift in several if shift[0] == "move"]))
        self.assertEqual(exactly_long([old, new]), before)
        return several

    def test_equal_lists(self):
        for many in range(len(LABELS)):
            self.assertEqual(exactly(shifts(LABELS[:many], copy.deepcopy(LABELS[:many]))), exactly([]))
            self.assertEqual(exactly(least_moves(LABELS[:many], copy.deepcopy(LABELS[:many]))), exactly(0))

    def test_the_form(self):
        self.assertEqual(exactly(shifts([], ["a"])), exactly([("insert", 0, "a")]))
        self.assertEqual(exactly(shifts([("a", 1)], [])), exactly([("remove", 0)]))
        self.assertEqual(exactly(least_moves(["a"], [1])), exactly(0))
        self.assertEqual(sorted(shifts(["a"], [1])), [("insert", 0, 1), ("remove", 0)])
        self.assertIn(shifts([1, 2], [2, 1]), ([("move", 0, 1)], [("move", 1, 0)]))

    def test_all_short_lists(self):
        lists = [list(row) for many in range(4) for row in itertools.permutations([1, "1", (1,), "b"], many)]
        for old, new in itertools.product(lists, repeat=2):
            self.right(old, new)

    def test_against_a_search_through_all_orders(self):
        for many in range(6):
            labels = LABELS[:many]
            for order, wanted in expected_moves.fewest_moves(many).items():
                new = [labels[at] for at in order]
                self.assertEqual(least_moves(labels, new), wanted)
                self.assertEqual(len(self.right(labels, new)), wanted)
                # Labels that only one of the lists has change nothing.
                self.assertEqual(least_moves(["x"] + labels + ["y"], new[:1] + ["z"] + new[1:]), wanted)
                self.right(["x"] + labels + ["y"], new[:1] + ["z"] + new[1:])

    def test_lists_that_dice_choose(self):
        dice = random.Random(36)
        for turn in range(400):
            old, new = [dice.sample(LABELS, dice.randint(0, len(LABELS))) for side in range(2)]
            if turn % 3 == 0:
                new = [one for one in old if dice.random() < 0.8]
                new.insert(dice.randint(0, len(new)), "new label")
            if turn % 3 == 1 and old:
                new = list(old)
                new.insert(dice.randrange(len(old)), new.pop(dice.randrange(len(old))))
            self.right(old, new)

    def test_known_orders(self):
        row = list(range(30))
        for new, wanted in (
            (row[::-1], 29), (row[1:] + row[:1], 1), (row[-1:] + row[:-1], 1), (row[15:] + row[:15], 15),
            (row[::2] + row[1::2], 14), ([1, 0] + row[2:], 1), (row[5:25], 0),
        ):
            self.assertEqual(least_moves(row, new), wanted)
            self.right(row, new)

    def test_the_result_is_new(self):
        old, new = ["a", "b", "c"], ["c", "d", "a"]
        several = shifts(old, new)
        before = exactly(several)
        clear(several)
        self.assertEqual(exactly(shifts(old, new)), before)
        self.assertEqual([old, new], [["a", "b", "c"], ["c", "d", "a"]])


class LongLists(unittest.TestCase):
    def test_8000_labels(self):
        dice = random.Random(8000)
        row = [("row", ("id", at), 0) for at in range(8000)]
        mixed = dice.sample(row, 8000)
        started = time.monotonic()
        for new, wanted in ((row[::-1], 7999), (row[4000:] + row[:4000], 4000), (row[::2] + row[1::2], 3999),
                            (row[1:] + row[:1], 1), (mixed, None), (mixed[:4000] + ["a", "b"], None)):
            several = shifts(row, new)
            self.assertTrue(done(row, several) == new)
            kinds = [shift[0] for shift in several]
            self.assertEqual(kinds.count("remove"), 8000 - len([one for one in new if one not in ("a", "b")]))
            self.assertEqual(kinds.count("insert"), len(new) - len([one for one in new if one not in ("a", "b")]))
            self.assertEqual(least_moves(row, new), kinds.count("move"))
            if wanted is not None:
                self.assertEqual(kinds.count("move"), wanted)
        self.assertLess(time.monotonic() - started, 10)

    def test_least_moves_of_long_lists_against_a_longest_common_order(self):
        dice = random.Random(600)
        for many in (300, 600):
            row = list(range(many))
            new = dice.sample(row, many - 20) + list(range(many, many + 20))
            self.assertEqual(least_moves(row, new), expected_moves.moves_needed(row, new))


if __name__ == "__main__":
    unittest.main()
