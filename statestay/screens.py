"""Screens: a drawing with the states of its parts, which stay with their parts when it is drawn again."""

from statestay.copies import fresh
from statestay.errors import InvalidData, NoPart, NothingToUndo
from statestay.matching import Rule
from statestay.moments import first_moment, next_moment
from statestay.shapes import check


class Screen:
    """A drawing and the states of its parts."""

    def __init__(self, template, rule, data):
        """Draw the data; no part has a state yet, and none has the focus."""
        self.template = template
        self.given_rule = Rule(rule.place)
        self.now = first_moment(template, data)
        # The moments as they were directly before each show that can be undone, the last one at the end.
        self.past = []

    def __getitem__(self, owner):
        """The state of the part with this owner."""
        self.need_part(owner)
        return self.now.texts[owner]

    def __setitem__(self, owner, state):
        """Set the state of the part with this owner."""
        self.need_part(owner)
        self.now.texts[owner] = state

    def __contains__(self, owner):
        """Whether a part has this owner."""
        return owner in self.now.texts

    # Without this, Python would ask for the items 0, 1, 2 and so on.
    def __iter__(self):
        raise TypeError("a screen is not iterated over: take its owners or its states")

    def __len__(self):
        """The number of the parts."""
        return len(self.now.texts)

    @property
    def data(self):
        """The data of the drawing."""
        return fresh(self.now.shown)

    @property
    def focus(self):
        """The owner of the part with the focus, or None."""
        return self.now.chosen

    def put_focus(self, owner):
        """Give the focus to the part with this owner, or to none."""
        if owner is not None:
            self.need_part(owner)
        moment = self.now
        moment.chosen = owner

    def owners(self):
        """The list of the owners of the parts, in the order of the drawing."""
        return list(self.now.texts)

    def states(self):
        """A dict from the owners of the parts to their states."""
        return {owner: state for owner, state in self.now.texts.items()}

    def lost(self):
        """The owners of the lost faults of the last show."""
        return list(self.now.gone)

    def mixed(self):
        """The pairs of owners of the mixed faults of the last show."""
        return list(self.now.crossed)

    def show(self, data):
        """Draw other data, and let each state go with its part."""
        following = next_moment(self.template, self.given_rule, self.now, data)
        self.past.append(self.now)
        self.now = following

    def undo(self):
        """Take back the last show that is not taken back."""
        if not self.past:
            raise NothingToUndo()
        self.now = self.past.pop()

    def trial(self, data):
        """What states, focus, lost and mixed would be after a show of the data."""
        following = next_moment(self.template, self.given_rule, self.now, data)
        # Nothing else holds this moment, so its lists can be given away.
        return (following.texts, following.chosen, following.gone, following.crossed)

    def play(self, several):
        """Show each of several data; the list of what lost and mixed are after each of them."""
        for index, data in enumerate(several):
            self.need_data(index, data)
        told = []
        for data in several:
            self.show(data)
            told.append((self.lost(), self.mixed()))
        return told

    def need_part(self, owner):
        """Raise NoPart if no part has this owner."""
        if owner not in self.now.texts:
            raise NoPart(owner)

    def need_data(self, index, data):
        """Raise what check raises for the data with this index of several."""
        try:
            check(self.template.shape, data)
        except InvalidData as wrong:
            raise InvalidData((index,) + wrong.path) from None
