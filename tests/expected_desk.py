"""What the document says of a desk, written down a second time: a desk is told by the list of all that was done."""

import copy

import expected
from statestay.matching import Rule
from statestay.shapes import Shape
from statestay.templates import Template
from statestay.verdicts import verdicts


def item_paths(items):
    return [path for path, item in expected.listed(items)]


def insert_paths(items):
    """All paths that an item which is put in can have."""
    found = [(at,) for at in range(len(items) + 1)]
    for path, item in expected.listed(items):
        for number, inner in enumerate(expected.inner_lists(item)):
            found += [path + (number, at) for at in range(len(inner) + 1)]
    return found


def edited(items, edit):
    """The items after an edit, or the error, when nothing is asked but its path."""
    path = edit[1]
    if path not in (insert_paths(items) if edit[0] == "insert" else item_paths(items)):
        return ("NoItem", path)
    items = copy.deepcopy(items)
    row = items
    for index, number in zip(path[::2], path[1::2]):
        row = expected.inner_lists(row[index])[number]
    if edit[0] == "insert":
        row.insert(path[-1], edit[2])
    else:
        row[path[-1]:path[-1] + 1] = [edit[2]] if edit[0] == "set" else []
    return items


class Model:
    """The steps that are done and those that are undone, each a list of edits."""

    def __init__(self, spec, items, place):
        self.spec = spec
        self.first = copy.deepcopy(items)
        self.place = place
        self.steps = []
        self.undone = []

    def after(self, steps, items=None):
        """The items after several steps, or the error of the first edit that raises."""
        items = self.first if items is None else items
        for edit in [edit for step in steps for edit in step]:
            items = edited(items, edit)
            if type(items) is tuple:
                return items
            error = expected.template_error(self.spec, items, None)
            if error is not None:
                return ("InvalidTemplate",) + error
        return items

    def items(self):
        return self.after(self.steps)

    def batch(self, edits):
        """The error, or None; then it is done."""
        result = self.after([edits], self.items())
        if type(result) is tuple:
            return result
        self.steps.append(copy.deepcopy(edits))
        self.undone = []
        return None

    def undo(self):
        if not self.steps:
            return ("NothingToUndo",)
        self.undone.append(self.steps.pop())
        return None

    def redo(self):
        if not self.undone:
            return ("NothingToRedo",)
        self.steps.append(self.undone.pop())
        return None

    def score(self, items):
        told = verdicts(Template(Shape(*self.spec), items), Rule(self.place))
        pairs = [(path, other) for path in told for other in told[path][1]]
        return (sum(1 for path in told if told[path][0] is True), len(pairs))

    def trail(self):
        return [self.score(self.after(self.steps[:many])) for many in range(len(self.steps) + 1)]

    def told(self):
        """The items, the length and the rule of now, the score and the trail."""
        return [self.items(), len(self.steps), self.place, self.score(self.items()), self.trail()]


def told(desk):
    """The same values, told by a desk."""
    return [desk.current().spread(), len(desk), desk.rule.place, desk.score(), desk.trail()]
