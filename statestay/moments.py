"""What a screen holds between one show and the next."""

from statestay.copies import fresh
from statestay.drawing import draw, part_owners
from statestay.matching import faults, match


class Moment:
    """The data and the drawing of a screen, the states of its parts, its focus, and the faults of the last show."""

    def __init__(self, shown, drawing, texts, chosen, found):
        """Keep the data that are shown, the nodes, the states by owner, the owner with the focus, and the faults."""
        self.shown = fresh(shown)
        self.drawing = drawing
        self.texts = texts
        self.chosen = chosen
        self.gone = [fault[1] for fault in found if fault[0] == "lost"]
        self.crossed = [(fault[1], fault[2]) for fault in found if fault[0] == "mixed"]


def first_moment(template, data):
    """What a screen holds before its first show."""
    drawing = draw(template, data)
    return Moment(data, drawing, {owner: "" for owner in part_owners(drawing)}, None, [])


def next_moment(template, rule, moment, data):
    """What a screen that holds this moment holds after a show of the data."""
    drawing = draw(template, data)
    pairs = match(rule, moment.drawing, drawing)
    sources = {after: before for before, after in pairs}
    # A part that is not matched has the source None, and no part has the owner None.
    texts = {owner: moment.texts.get(sources.get(owner), "") for owner in part_owners(drawing)}
    chosen = dict(pairs).get(moment.chosen)
    return Moment(data, drawing, texts, chosen, faults(rule, moment.drawing, drawing))
