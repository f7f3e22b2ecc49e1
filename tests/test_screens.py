"""Screens (points 29 to 34)."""

import copy
import random
import unittest

import expected
from expected_screens import told
from helpers import clear, exactly, outcome, spoiled, variants
from samples import group, one, part, rich, rich_data, rich_items
from statestay.drawing import draw
from statestay.matching import Rule
from statestay.screens import Screen
from statestay.shapes import Shape
from statestay.templates import Template

SPEC = (["on"], {"todo": one()})
# The note is drawn while the flag is on; the rows have no key, the names in them have one, and so has the end.
ITEMS = [
    ("if", ("flag", "on"), [part("note")], []),
    group([("for", "todo", [part("row", None, [part("name", ("id",))])])], ("word", "rows")),
    part("end", ("word", "end")),
]
NOTE = ((0, 0, 0), ())
END = ((2,), ())


def row(number):
    return ((1, 0, 0, 0, 0), (number,))


def name(number):
    return ((1, 0, 0, 0, 0, 0, 0), (number,))


def data(*several, on=False):
    rows = [{"id": number, "fields": {}, "lists": {}} for number in several]
    return {"flags": {"on": on}, "lists": {"todo": rows}}


def new_screen(*several, on=False, rule="all"):
    return Screen(Template(Shape(*SPEC), ITEMS), Rule(rule), data(*several, on=on))


def busy_screen():
    """A screen on which much was done: two shows, states, and the focus."""
    screen = new_screen(5, 3, on=True)
    screen[row(5)] = "milk"
    screen[NOTE] = "early"
    screen.put_focus(row(3))
    screen.show(data(3, 7, 5))
    screen[name(7)] = "bread"
    screen[END] = "last"
    screen.show(data(7, 3))
    screen[row(7)] = "salt"
    screen.put_focus(row(7))
    return screen


def unwound(screen):
    """What the screen tells now and after each undo."""
    found = [exactly(told(screen))]
    while outcome(screen.undo) is None:
        found.append(exactly(told(screen)))
    return found


class Start(unittest.TestCase):
    def test_states(self):
        screen = new_screen(5, 3, on=True)
        owners = [NOTE, row(5), name(5), row(3), name(3), END]
        self.assertEqual(exactly(told(screen)), exactly(
            [data(5, 3, on=True), owners, {owner: "" for owner in owners}, None, [], [], 6]))
        self.assertEqual([screen[owner] for owner in owners], [""] * 6)

    def test_a_drawing_without_parts(self):
        screen = Screen(Template(Shape([], {}), [group()]), Rule(), {"flags": {}, "lists": {}})
        self.assertEqual(exactly(told(screen)), exactly([{"flags": {}, "lists": {}}, [], {}, None, [], [], 0]))
        self.assertIs(((0,), ()) in screen, False)

    def test_by_keywords(self):
        template = Template(Shape(*SPEC), ITEMS)
        screen = Screen(template=template, rule=Rule(), data=data(5))
        screen.show(data=data(3))
        screen.put_focus(owner=row(3))
        self.assertEqual(screen.trial(data=data())[1], None)
        self.assertEqual(screen.play(several=[data(3)]), [([], [])])
        self.assertEqual(screen.focus, row(3))

    def test_parts_below_parts_and_the_rich_template(self):
        items, pieces = rich_items()
        template = Template(Shape(*rich()), items, pieces=pieces)
        screen = Screen(template, Rule(), rich_data())
        parts = [node.owner for top in draw(template, rich_data()) for node in top.walk() if node.kind is not None]
        self.assertEqual((screen.owners(), len(screen)), (parts, len(parts)))
        self.assertGreater(len(parts), 10)


class Owners(unittest.TestCase):
    GONE = [row(9), name(4), ((1,), ()), ((0,), ()), ((0, 0, 1), ()), ((0, 1, 0), ()), ((9,), ()), ((), ()),
            ((1, 0, 0, 0, 0), ()), ((1, 0, 0, 0, 0), (5, 5)), ((2,), (5,)), ((1, 0, 0), (5,)), NOTE]

    def test_setting_and_reading(self):
        screen = new_screen(5, 3)
        screen[row(5)] = "milk"
        screen[name(3)] = "two\nlines"
        screen[row(5)] = screen[row(5)] + "!"
        self.assertEqual((screen[row(5)], screen[name(3)], screen[row(3)]), ("milk!", "two\nlines", ""))
        screen[row(5)] = ""
        self.assertEqual(screen.states(), {row(5): "", name(5): "", row(3): "", name(3): "two\nlines", END: ""})
        self.assertEqual(screen.owners(), [row(5), name(5), row(3), name(3), END])

    def test_owners_that_are_not_there(self):
        screen = new_screen(5, 3)
        before = exactly(told(screen))
        for owner in self.GONE:
            self.assertIs(owner in screen, False)
            wanted = exactly(("NoPart", owner))
            self.assertEqual(exactly(outcome(lambda: screen[owner])), wanted)
            self.assertEqual(exactly(outcome(screen.__setitem__, owner, "x")), wanted)
            self.assertEqual(exactly(outcome(screen.put_focus, owner)), wanted)
        self.assertEqual(exactly(told(screen)), before)

    def test_owners_that_are_there(self):
        screen = new_screen(5, 3, on=True)
        for owner in screen.owners():
            self.assertIs(owner in screen, True)
            self.assertIs(owner not in screen, False)
            self.assertEqual(screen[owner], "")

    def test_owners_of_before(self):
        screen = new_screen(5, 3, on=True)
        screen[NOTE] = "x"
        screen.put_focus(row(5))
        screen.show(data(3))
        for owner in (NOTE, row(5), name(5)):
            self.assertIs(owner in screen, False)
            self.assertEqual(outcome(lambda: screen[owner]), ("NoPart", owner))
            self.assertEqual(outcome(screen.__setitem__, owner, "x"), ("NoPart", owner))
            self.assertEqual(outcome(screen.put_focus, owner), ("NoPart", owner))
        screen.show(data(3, on=True))
        self.assertEqual((screen[NOTE], len(screen)), ("", 4))

    def test_groups_are_no_parts(self):
        screen = Screen(Template(Shape([], {}), [group([part("a")]), part("b")]), Rule(), {"flags": {}, "lists": {}})
        self.assertEqual((screen.owners(), len(screen)), ([((0, 0, 0), ()), ((1,), ())], 2))
        for call in (screen.put_focus, screen.__getitem__):
            self.assertEqual(outcome(call, ((0,), ())), ("NoPart", ((0,), ())))


class Focus(unittest.TestCase):
    def test_putting(self):
        screen = new_screen(5, 3)
        for owner in (row(5), name(3), None, END, None, None, row(5)):
            self.assertIsNone(screen.put_focus(owner))
            self.assertEqual(exactly(screen.focus), exactly(owner))

    def test_an_error_leaves_it(self):
        screen = new_screen(5, 3)
        screen.put_focus(row(3))
        self.assertEqual(outcome(screen.put_focus, row(4)), ("NoPart", row(4)))
        self.assertEqual(screen.focus, row(3))

    def test_it_goes_with_its_part(self):
        screen = new_screen(5, 3)
        screen.put_focus(row(5))
        screen.show(data(3, 5))
        self.assertEqual(screen.focus, row(3))
        screen.put_focus(name(5))
        screen.show(data(5, 3))
        self.assertIsNone(screen.focus)

    def test_it_stays_with_a_key(self):
        screen = new_screen(5, 3, on=True)
        screen.put_focus(END)
        screen.show(data(on=False))
        self.assertEqual(screen.focus, END)

    def test_it_becomes_none(self):
        screen = new_screen(5, 3, on=True)
        screen.put_focus(NOTE)
        screen.show(data(5, 3))
        self.assertIsNone(screen.focus)
        screen.show(data(5, 3, on=True))
        self.assertIsNone(screen.focus)

    def test_another_part_with_its_owner_does_not_take_it(self):
        screen = new_screen(5, 3)
        screen.put_focus(row(3))
        screen.show(data(3))
        self.assertIn(row(3), screen)
        self.assertIsNone(screen.focus)

    def test_without_a_focus(self):
        screen = new_screen(5, 3)
        screen.show(data(5, 3))
        self.assertIsNone(screen.focus)
        screen.put_focus(row(5))
        screen.put_focus(None)
        screen.show(data(5, 3))
        self.assertIsNone(screen.focus)


class Show(unittest.TestCase):
    def test_states_go_with_their_parts(self):
        screen = new_screen(5, 3, 8)
        for owner in screen.owners():
            screen[owner] = repr(owner)
        self.assertIsNone(screen.show(data(8, 5)))
        self.assertEqual(screen.states(), {
            row(8): repr(row(5)), name(8): "", row(5): repr(row(3)), name(5): "", END: repr(END)})
        self.assertEqual(screen.lost(), [row(5), name(5), row(8), name(8)])
        self.assertEqual(screen.mixed(), [(row(5), row(8)), (row(3), row(5))])

    def test_the_rules(self):
        items = [part("a", ("id",))]
        template = Template(Shape(*SPEC), [("for", "todo", items), part("end")])
        end = ((1,), ())
        for place, state, lost in (("all", "", [end]), ("plain", "x", [])):
            screen = Screen(template, Rule(place), data(5))
            screen[end] = "x"
            screen.put_focus(end)
            screen.show(data(5, 3))
            self.assertEqual((screen[end], screen.lost(), screen.mixed()), (state, lost, []))
            self.assertEqual(screen.focus, end if place == "plain" else None)

    def test_lost_and_mixed_are_of_the_last_show(self):
        screen = new_screen(5, 3)
        screen.show(data(3))
        self.assertEqual((screen.lost(), screen.mixed()), ([row(3), name(3)], [(row(5), row(3))]))
        screen.show(data(3, 5))
        self.assertEqual((screen.lost(), screen.mixed()), ([], []))
        screen.show(data(5))
        self.assertEqual((screen.lost(), screen.mixed()), ([row(5), name(5)], [(row(3), row(5))]))

    def test_equal_data(self):
        screen = new_screen(5, 3)
        screen.show(data(3, 5))
        screen[row(5)] = "x"
        screen.put_focus(row(5))
        self.assertNotEqual(screen.lost(), [])
        screen.show(data(3, 5))
        self.assertEqual((screen.lost(), screen.mixed(), screen[row(5)], screen.focus), ([], [], "x", row(5)))
        screen[row(5)] = "y"
        screen.undo()
        self.assertEqual((screen[row(5)], screen.lost()), ("x", [row(5), name(5), row(3), name(3)]))
        screen.undo()
        self.assertEqual((screen.data, screen.lost()), (data(5, 3), []))

    def test_states_do_not_come_back(self):
        screen = new_screen(5, 3)
        screen[name(3)] = "x"
        screen.show(data(5))
        screen.show(data(5, 3))
        self.assertEqual(screen.states(), {row(5): "", name(5): "", row(3): "", name(3): "", END: ""})

    def test_states_over_several_shows(self):
        screen = new_screen(5, 3)
        screen[END] = "end"
        screen[row(5)] = "first"
        for several in ((3,), (8, 9, 1), (4, 5)):
            screen.show(data(*several))
        self.assertEqual((screen[END], screen[row(4)], screen[row(5)]), ("end", "first", ""))


class Undo(unittest.TestCase):
    def test_nothing_to_undo(self):
        screen = new_screen(5, 3)
        screen[row(5)] = "x"
        screen.put_focus(row(5))
        before = exactly(told(screen))
        self.assertEqual(outcome(screen.undo), ("NothingToUndo",))
        self.assertEqual(outcome(screen.undo), ("NothingToUndo",))
        self.assertEqual(exactly(told(screen)), before)
        screen.show(data(3))
        self.assertIsNone(screen.undo())
        self.assertEqual(exactly(told(screen)), before)
        self.assertEqual(outcome(screen.undo), ("NothingToUndo",))

    def test_what_was_set_before_and_after_the_show(self):
        screen = new_screen(5, 3)
        screen[row(5)] = "before"
        screen.put_focus(row(5))
        screen.show(data(5, 3))
        screen[row(5)] = "after"
        screen[END] = "after"
        screen.put_focus(END)
        screen.undo()
        self.assertEqual((screen[row(5)], screen[END], screen.focus), ("before", "", row(5)))

    def test_a_part_that_was_gone(self):
        screen = new_screen(5, 3)
        screen[name(5)] = "x"
        screen.put_focus(name(5))
        screen.show(data())
        self.assertEqual((len(screen), screen.focus), (1, None))
        screen.undo()
        self.assertEqual((screen[name(5)], screen.focus, screen.data), ("x", name(5), data(5, 3)))

    def test_several(self):
        screen = new_screen(5, 3)
        seen = []
        for at, several in enumerate([(3,), (3, 5), (1, 2, 3), (), (5, 3)]):
            screen[END] = str(at)
            screen.put_focus(screen.owners()[0] if at % 2 else None)
            seen.append(exactly(told(screen)))
            screen.show(data(*several))
        screen[END] = "end"
        for before in reversed(seen):
            screen.undo()
            self.assertEqual(exactly(told(screen)), before)
        self.assertEqual(outcome(screen.undo), ("NothingToUndo",))

    def test_very_many(self):
        screen = new_screen()
        screen.put_focus(END)
        for at in range(300):
            screen[END] = str(at)
            screen.show(data(at % 7, 9))
        screen.play([data(at % 5) for at in range(100)])
        for at in range(99):
            screen.undo()
        screen.undo()
        for at in range(299, -1, -1):
            screen.undo()
            self.assertEqual((screen[END], screen.focus), (str(at), END))
            self.assertEqual(screen.data, data((at - 1) % 7, 9) if at else data())
        self.assertEqual(outcome(screen.undo), ("NothingToUndo",))

    def test_a_show_after_an_undo(self):
        screen = new_screen(5, 3)
        screen.show(data(3))
        screen[row(3)] = "y"
        first = exactly(told(screen))
        screen.show(data())
        screen.undo()
        self.assertEqual(exactly(told(screen)), first)
        screen[row(3)] = "z"
        second = exactly(told(screen))
        screen.show(data(3, 4))
        self.assertEqual(screen.states()[row(3)], "z")
        screen.undo()
        self.assertEqual(exactly(told(screen)), second)
        screen.undo()
        self.assertEqual(exactly(told(screen)), exactly(told(new_screen(5, 3))))
        self.assertEqual(outcome(screen.undo), ("NothingToUndo",))

    def test_what_is_set_after_an_undo_stays(self):
        screen = new_screen(5, 3)
        screen.show(data(3))
        screen.undo()
        screen[row(5)] = "x"
        screen.put_focus(row(5))
        screen.show(data(5, 3))
        self.assertEqual((screen[row(5)], screen.focus), ("x", row(5)))
        screen.undo()
        self.assertEqual((screen[row(5)], screen.focus), ("x", row(5)))


class Trial(unittest.TestCase):
    def test_it_tells_what_a_show_does(self):
        for several in ((), (3,), (7, 3), (3, 7), (7, 3, 5), (1, 2)):
            for on in (False, True):
                screen = busy_screen()
                result = screen.trial(data(*several, on=on))
                screen.show(data(*several, on=on))
                self.assertEqual(exactly(result), exactly((screen.states(), screen.focus, screen.lost(),
                                                           screen.mixed())))

    def test_the_values(self):
        screen = new_screen(5, 3)
        screen[row(5)] = "milk"
        screen.put_focus(row(5))
        self.assertEqual(exactly(screen.trial(data(3))), exactly(
            ({row(3): "milk", name(3): "", END: ""}, row(3), [row(3), name(3)], [(row(5), row(3))])))

    def test_the_screen_stays(self):
        screen = busy_screen()
        before = exactly(told(screen))
        screen.trial(data(3, 7, on=True))
        screen.trial(data())
        self.assertEqual(exactly(told(screen)), before)
        self.assertEqual(unwound(screen), unwound(busy_screen()))

    def test_it_cannot_be_undone(self):
        screen = new_screen(5, 3)
        screen.trial(data(3))
        self.assertEqual(outcome(screen.undo), ("NothingToUndo",))

    def test_its_result_is_new(self):
        screen = busy_screen()
        before = exactly(told(screen))
        result = screen.trial(screen.data)
        again = exactly(result)
        clear(result)
        self.assertEqual(exactly(told(screen)), before)
        self.assertEqual(exactly(screen.trial(screen.data)), again)


class Play(unittest.TestCase):
    def test_it_does_what_the_shows_do(self):
        several = [data(3), data(3, 5, on=True), data(), data(5, 3), data(5, 3)]
        played, shown = busy_screen(), busy_screen()
        result = played.play(several)
        wanted = []
        for given in several:
            shown.show(given)
            wanted.append((shown.lost(), shown.mixed()))
        self.assertEqual(exactly(result), exactly(wanted))
        self.assertNotIn([], wanted[0])
        self.assertEqual(exactly(told(played)), exactly(told(shown)))
        self.assertEqual(unwound(played), unwound(shown))

    def test_the_values(self):
        screen = new_screen(5, 3)
        self.assertEqual(exactly(screen.play([data(3), data(3), data(5)])), exactly([
            ([row(3), name(3)], [(row(5), row(3))]), ([], []), ([], [(row(3), row(5))])]))

    def test_an_empty_list(self):
        screen = busy_screen()
        self.assertEqual(exactly(screen.play([])), exactly([]))
        self.assertEqual(unwound(screen), unwound(busy_screen()))

    def test_each_can_be_undone(self):
        screen = new_screen(5, 3)
        screen[END] = "x"
        screen.play([data(3), data(4)])
        self.assertEqual((screen.data, screen[END]), (data(4), "x"))
        screen.undo()
        self.assertEqual((screen.data, screen.mixed()), (data(3), [(row(5), row(3))]))
        screen.undo()
        self.assertEqual((screen.data, screen.lost()), (data(5, 3), []))
        self.assertEqual(outcome(screen.undo), ("NothingToUndo",))

    def test_the_same_data_again(self):
        screen = new_screen(5, 3)
        given = data(3)
        self.assertEqual(len(screen.play([given, given, given])), 3)
        self.assertEqual(len(unwound(screen)), 4)

    def test_its_result_is_new(self):
        screen = busy_screen()
        result = screen.play([data(3), data(5, 3)])
        before = exactly(told(screen))
        clear(result)
        self.assertEqual(exactly(told(screen)), before)
        screen.undo()
        self.assertNotEqual(screen.lost(), [])


class WrongData(unittest.TestCase):
    def calls(self, screen, wrong):
        """What each call raises that takes the data."""
        return [outcome(Screen, screen_template(), Rule(), wrong), outcome(screen.show, wrong),
                outcome(screen.trial, wrong)]

    def test_spoiled_data(self):
        template = screen_template()
        screen = Screen(template, Rule(), rich_data())
        screen[((0,), ())] = "x"
        screen.put_focus(((0,), ()))
        before = exactly(told(screen))
        dice = random.Random(29)
        several = list(variants(rich_data()))[::25]
        for time in range(300):
            several.append(spoiled(spoiled(rich_data(), dice), dice))
        for wrong in several:
            wanted = expected.data_error(rich(), wrong)
            if wanted is None:
                continue
            self.assertEqual(self.calls(screen, wrong), [wanted] * 3)
            index = dice.randrange(3)
            listed = [rich_data()] * index + [wrong] + [rich_data()] * dice.randrange(2)
            if wanted[0] == "InvalidData":
                wanted = (wanted[0], (index,) + wanted[1])
            self.assertEqual(exactly(outcome(screen.play, listed)), exactly(wanted))
        self.assertEqual(exactly(told(screen)), before)
        self.assertEqual(outcome(screen.undo), ("NothingToUndo",))

    def test_everything_stays(self):
        many = data(*range(301))
        wrong = data(5, 5)
        path = ("lists", "todo", 1, "id")
        for call, told_error in (
            (lambda screen: screen.show(wrong), ("InvalidData", path)),
            (lambda screen: screen.show(many), ("LimitExceeded", 300)),
            (lambda screen: screen.show(None), ("InvalidData", ())),
            (lambda screen: screen.trial(wrong), ("InvalidData", path)),
            (lambda screen: screen.trial(many), ("LimitExceeded", 300)),
            (lambda screen: screen.play([wrong]), ("InvalidData", (0,) + path)),
            (lambda screen: screen.play([data(3), data(), wrong]), ("InvalidData", (2,) + path)),
            (lambda screen: screen.play([data(3), many]), ("LimitExceeded", 300)),
            (lambda screen: screen.play([data(3), many, wrong]), ("LimitExceeded", 300)),
            (lambda screen: screen.play([data(3), wrong, many]), ("InvalidData", (1,) + path)),
            (lambda screen: screen.play([data(3), wrong, None]), ("InvalidData", (1,) + path)),
            (lambda screen: screen.play([None, wrong]), ("InvalidData", (0,))),
            (lambda screen: screen.play([data(3), []]), ("InvalidData", (1,))),
        ):
            screen = busy_screen()
            before = exactly(told(screen))
            self.assertEqual(exactly(outcome(call, screen)), exactly(told_error))
            self.assertEqual(exactly(told(screen)), before)
            self.assertEqual(unwound(screen), unwound(busy_screen()))

    def test_at_the_limit(self):
        screen = new_screen(*range(300))
        self.assertEqual(len(screen), 601)
        screen.show(data(*range(1, 301)))
        self.assertEqual(len(screen.trial(data(*range(300)))[0]), 601)
        self.assertEqual(len(screen.play([data(*range(300))])), 1)
        self.assertEqual(outcome(new_screen, *range(301)), ("LimitExceeded", 300))

    def test_a_show_after_an_error(self):
        screen = new_screen(5, 3)
        screen[END] = "x"
        outcome(screen.show, None)
        outcome(screen.play, [data(3), None])
        screen.show(data(3))
        self.assertEqual((screen[END], screen.mixed()), ("x", [(row(5), row(3))]))


def screen_template():
    items, pieces = rich_items()
    return Template(Shape(*rich()), items, pieces=pieces)


class WhatIsCopied(unittest.TestCase):
    def test_data_that_are_handed_in(self):
        first, second, third, fourth = data(5, 3), data(3), data(8), data(9)
        several = [third, fourth]
        given = copy.deepcopy([first, second, several])
        screen = Screen(Template(Shape(*SPEC), ITEMS), Rule(), first)
        screen.show(second)
        screen.trial(third)
        screen.play(several)
        self.assertEqual([first, second, several], given)
        for one_data in (first, second, third, fourth, several):
            clear(one_data)
        for wanted in (data(9), data(8), data(3), data(5, 3)):
            self.assertEqual(exactly(screen.data), exactly(wanted))
            self.assertEqual(screen.owners(), [one for row_data in wanted["lists"]["todo"]
                                               for one in (row(row_data["id"]), name(row_data["id"]))] + [END])
            outcome(screen.undo)

    def test_data_that_change_before_the_next_show(self):
        given = data(5, 3)
        screen = Screen(Template(Shape(*SPEC), ITEMS), Rule(), given)
        given["lists"]["todo"][0]["id"] = 7
        given["lists"]["todo"].pop()
        screen.show(data(3))
        self.assertEqual((screen.lost(), screen.mixed()), ([row(3), name(3)], [(row(5), row(3))]))

    def test_data_that_are_read(self):
        screen = new_screen(5, 3)
        self.assertIsNot(screen.data, screen.data)
        self.assertIsNot(screen.data["lists"], screen.data["lists"])
        self.assertIsNot(screen.data["lists"]["todo"][0], screen.data["lists"]["todo"][0])
        clear(screen.data)
        screen.data["lists"]["todo"].reverse()
        self.assertEqual(exactly(told(screen)), exactly(told(new_screen(5, 3))))
        screen.show(screen.data)
        self.assertEqual((screen.lost(), screen.data), ([], data(5, 3)))

    def test_all_that_is_returned(self):
        screen = busy_screen()
        before = exactly(told(screen))
        for call in (screen.owners, screen.states, screen.lost, screen.mixed):
            self.assertIsNot(call(), call())
            self.assertGreater(len(call()), 0)
            clear(call())
            self.assertEqual(exactly(told(screen)), before)
        screen.states()[END] = "other"
        screen.owners().append(NOTE)
        self.assertEqual(exactly(told(screen)), before)
        self.assertEqual(unwound(screen), unwound(busy_screen()))

    def test_lists_read_before_a_show(self):
        screen = busy_screen()
        values = told(screen)
        before = exactly(values)
        screen[END] = "other"
        screen.put_focus(END)
        screen.show(data(1))
        screen.undo()
        self.assertEqual(exactly(values), before)

    def test_the_template_and_the_rule_stay(self):
        template = Template(Shape(*SPEC), ITEMS)
        rule = Rule("plain")
        screen = Screen(template, rule, data(5))
        screen.show(data(3))
        screen.play([data(), data(5, 3)])
        self.assertTrue(template == Template(Shape(*SPEC), ITEMS))
        self.assertTrue(rule == Rule("plain"))


class SideBySide(unittest.TestCase):
    def test_two_screens(self):
        template = Template(Shape(*SPEC), ITEMS)
        rule = Rule()
        given = data(5, 3)
        left, right = Screen(template, rule, given), Screen(template, rule, given)
        fresh = exactly(told(right))
        left[row(5)] = "x"
        left.put_focus(row(5))
        self.assertEqual(exactly(told(right)), fresh)
        left.show(data(3))
        self.assertEqual(exactly(told(right)), fresh)
        self.assertEqual(outcome(right.undo), ("NothingToUndo",))
        right.show(data(5))
        right[END] = "y"
        self.assertEqual((left[row(3)], left[END], left.data), ("x", "", data(3)))
        left.undo()
        self.assertEqual((right[END], right.data), ("y", data(5)))
        self.assertEqual(outcome(left.undo), ("NothingToUndo",))
        right.undo()
        self.assertEqual(exactly(told(right)), fresh)

    def test_a_screen_of_the_data_of_another(self):
        left = busy_screen()
        right = Screen(Template(Shape(*SPEC), ITEMS), Rule(), left.data)
        right[row(3)] = "z"
        self.assertEqual((left[row(3)], right.lost(), right.mixed(), right.focus), ("", [], [], None))


if __name__ == "__main__":
    unittest.main()
