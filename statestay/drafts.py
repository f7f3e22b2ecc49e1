"""Drafts: the templates that a desk holds, and edits that lead from one to another."""

from statestay.errors import NoItem
from statestay.forms import is_integer
from statestay.templates import Template
from statestay.trees import lists_of, spliced
from statestay.verdicts import verdicts


class Draft:
    """A template without pieces, with its scores."""

    def __init__(self, template):
        """Keep the template; its scores are found out when they are asked for."""
        self.template = template
        self.scores = {}

    def score_by(self, rule):
        """The score of the template with a rule."""
        # Templates do not change, so a score holds for good.
        if rule.place not in self.scores:
            told = list(verdicts(self.template, rule).values())
            lost = len([mixed for gone, mixed in told if gone])
            self.scores[rule.place] = (lost, sum([len(mixed) for gone, mixed in told]))
        return self.scores[rule.place]


def edited(template, edit):
    """The template after an edit."""
    path = edit[1]
    if edit[0] == "insert":
        if not names_place(template, path):
            raise NoItem(path)
        return Template(template.shape, spliced(template.tree, path, 0, [edit[2]]))
    template.need_item(path)
    return Template(template.shape, spliced(template.tree, path, 1, [edit[2]] if edit[0] == "set" else []))


def names_place(template, path):
    """Whether an item that is put in can have this path."""
    several = [template.tree]
    number = 0
    if len(path) > 1:
        if path[:-2] not in template.table:
            return False
        several = lists_of(template.table[path[:-2]][0])
        number = path[-2]
    if len(path) == 0 or not is_integer(number, 0, len(several) - 1):
        return False
    return is_integer(path[-1], 0, len(several[number]))
