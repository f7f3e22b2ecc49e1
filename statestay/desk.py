"""The desk: a template that is edited, step by step."""

from statestay.drafts import Draft, edited
from statestay.errors import NothingToRedo, NothingToUndo
from statestay.matching import Rule
from statestay.templates import Template


class Desk:
    """A template and a rule of now, with the steps that can be undone and done again."""

    def __init__(self, template, rule):
        """Begin with the spread-out items of a template."""
        self.now = Draft(Template(template.shape, template.spread()))
        self.given_rule = Rule(rule.place)
        # The drafts as they were before each step, the first one at the front.
        self.past = []
        # The drafts as they were after each step that is undone, the one that comes next at the end.
        self.undone = []

    def __getitem__(self, path):
        """The item at the path."""
        return self.now.template.item_at(path)

    def __setitem__(self, path, item):
        """Put an item in the place of the one at the path."""
        self.do(("set", path, item))

    def __contains__(self, path):
        """Whether there is an item at the path."""
        return path in self.now.template.table

    # Without this, Python would ask for the items 0, 1, 2 and so on.
    def __iter__(self):
        raise TypeError("a desk is not iterated over: take the paths of its template")

    def __len__(self):
        """The number of the steps that can be undone."""
        return len(self.past)

    @property
    def rule(self):
        """The rule of now."""
        return Rule(self.given_rule.place)

    def use_rule(self, rule):
        """Make another rule the rule of now."""
        self.given_rule = Rule(rule.place)

    def current(self):
        """The template of now."""
        return self.now.template

    def do(self, edit):
        """Do an edit as one step."""
        self.batch([edit])

    def batch(self, edits):
        """Do several edits, one after the other, as one step."""
        following = self.draft_after(edits)
        self.past.append(self.now)
        self.undone = []
        self.now = following

    def draft_after(self, edits):
        """The draft that several edits lead to."""
        template = self.now.template
        for edit in edits:
            template = edited(template, edit)
        return Draft(template)

    def undo(self):
        """Take back the last step that is not undone."""
        if not self.past:
            raise NothingToUndo()
        self.undone.append(self.now)
        self.now = self.past.pop()

    def redo(self):
        """Do the last undone step again."""
        if not self.undone:
            raise NothingToRedo()
        self.past.append(self.now)
        self.now = self.undone.pop()

    def score(self):
        """How many parts can be lost, and how many pairs of parts can be mixed, with the rule of now."""
        return self.now.score_by(self.given_rule)

    def trial(self, edits):
        """The score that a batch of these edits would lead to."""
        return self.draft_after(edits).score_by(self.given_rule)

    def trail(self):
        """The scores of the first template and of that after each step that is not undone."""
        return [draft.score_by(self.given_rule) for draft in self.past + [self.now]]
