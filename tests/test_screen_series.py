"""Long series of all that can be done to a screen (points 29 to 34), against another way to say what it holds."""

import copy
import random
import unittest

import chance
import expected
import expected_screens
from expected_screens import Model, told
from helpers import exactly, outcome, spoiled
from statestay.matching import Rule
from statestay.screens import Screen
from statestay.shapes import Shape
from statestay.templates import Template


class Pair:
    """A screen and a model of it, to which the same is done."""

    def __init__(self, case, dice, spec, template, rule):
        self.case = case
        self.dice = dice
        self.spec = spec
        self.items = template.spread()
        first = chance.data(dice, spec)
        self.screen = Screen(template, rule, first)
        self.model = Model(self.items, rule.place, first)

    def compare(self):
        self.case.assertEqual(exactly(told(self.screen)), exactly(self.model.told()))

    def step(self):
        """Do one thing that the dice choose."""
        deeds = [self.set_state] * 5 + [self.focus] * 2 + [self.show] * 4 + [self.undo] * 2
        deed = self.dice.choice(deeds + [self.trial, self.play, self.wrong, self.gone])
        deed()
        self.compare()

    def next_data(self, before):
        if self.dice.random() < 0.2:
            return chance.data(self.dice, self.spec)
        if self.dice.random() < 0.1:
            return copy.deepcopy(before)
        return chance.changed(self.dice, self.spec, before)

    def set_state(self):
        owners = self.screen.owners()
        if owners:
            owner = self.dice.choice(owners)
            state = f"s{self.dice.randrange(1000)}"
            self.screen[owner] = state
            self.model.do("set", owner, state)

    def focus(self):
        owner = self.dice.choice(self.screen.owners() + [None])
        self.screen.put_focus(owner)
        self.model.do("focus", owner)

    def show(self):
        after = self.next_data(self.model.data)
        self.screen.show(after)
        self.model.do("show", after)

    def undo(self):
        self.case.assertEqual(outcome(self.screen.undo), None if self.model.undo() else ("NothingToUndo",))

    def trial(self):
        after = self.next_data(self.model.data)
        result = self.screen.trial(after)
        self.model.do("show", after)
        self.case.assertEqual(exactly(result), exactly(tuple(self.model.told()[2:6])))
        self.model.undo()

    def play(self):
        several = [self.next_data(self.model.data)]
        while self.dice.random() < 0.6:
            several.append(self.next_data(several[-1]))
        wanted = []
        for after in several:
            self.model.do("show", after)
            wanted.append(tuple(self.model.told()[4:6]))
        self.case.assertEqual(exactly(self.screen.play(several)), exactly(wanted))

    def wrong(self):
        """Calls with wrong data; the model does nothing."""
        bad = spoiled(self.next_data(self.model.data), self.dice)
        error = expected.data_error(self.spec, bad)
        if error is None:
            return
        for call in (self.screen.show, self.screen.trial):
            self.case.assertEqual(exactly(outcome(call, bad)), exactly(error))
        several = [self.next_data(self.model.data) for time in range(self.dice.randrange(3))]
        if error[0] == "InvalidData":
            error = (error[0], (len(several),) + error[1])
        self.case.assertEqual(exactly(outcome(self.screen.play, several + [bad])), exactly(error))

    def gone(self):
        """Calls with an owner that no part has, or that a part had before."""
        before = Model(self.items, "all", self.next_data(self.model.data)).nodes
        owners = [node[2] for node in expected_screens.walked(before)] + [((9,), ()), ((0,), (1, 2, 3))]
        owner = self.dice.choice(owners)
        there = owner in expected_screens.parts(self.model.nodes)
        self.case.assertIs(owner in self.screen, there)
        if not there:
            for call in (lambda: self.screen[owner], lambda: self.screen.__setitem__(owner, "x"),
                         lambda: self.screen.put_focus(owner)):
                self.case.assertEqual(exactly(outcome(call)), exactly(("NoPart", owner)))


class Series(unittest.TestCase):
    def run_pairs(self, dice, spec, turns, many):
        """So many turns with two screens of one template and one rule."""
        template = Template(Shape(*spec), chance.items(dice, spec))
        rule = Rule(dice.choice(["all", "plain"]))
        pairs = [Pair(self, dice, spec, template, rule) for pair in range(2)]
        for turn in range(turns):
            dice.choice(pairs).step()
        for pair in pairs:
            pair.compare()
            while pair.model.undo():
                pair.screen.undo()
                pair.compare()
            self.assertEqual(outcome(pair.screen.undo), ("NothingToUndo",))

    def test_many_templates(self):
        dice = random.Random(31)
        for turn in range(60):
            self.run_pairs(dice, chance.specs()[turn % 3], 40, 2)

    def test_long(self):
        dice = random.Random(32)
        for turn in range(3):
            self.run_pairs(dice, chance.specs()[turn], 200, 2)


if __name__ == "__main__":
    unittest.main()
