"""A study of a template: all slots that its nodes can have, told without listing data.

What a slot depends on is split up. The answers of a world and the ids of the rows around tell which items are drawn and
what the keys are. What is left is how many rows of which sort stand ahead. As each list is gone through by at most one
for, these rows count among one list of siblings alone, so the levels of a node have their indexes independently.
"""

from statestay.around import has_value, holds, value_of
from statestay.cases import Case, ids_for, ids_in
from statestay.levels import Level, nodes_on
from statestay.matching import Rule
from statestay.questions import answers, is_open
from statestay.shapes import every_choice
from statestay.sums import Ahead, sums
from statestay.worlds import bodies, surroundings

# No row has this id: it stands for all ids that a key value does not have.
OTHER = -1


class Study:
    """What the nodes of a template can become with a rule."""

    def __init__(self, template, rule):
        """Keep what is studied; what is found out is kept, too."""
        self.template = template
        self.plain = rule.place == Rule.PLAIN
        self.found_levels = {}
        self.found_bodies = {}
        self.found_slots = {}
        self.found_cases = {}
        self.found_forms = {}

    def level(self, path):
        """The level of the node at the path."""
        if path not in self.found_levels:
            self.found_levels[path] = Level(self.template, path)
        return self.found_levels[path]

    def cases(self, path):
        """Cases for all ways in which the node at the path can stand in a drawing, no two of them alike."""
        if path not in self.found_cases:
            self.found_cases[path] = self.new_cases(path)
        return self.found_cases[path]

    def new_cases(self, path):
        """The cases of a node that was not asked for before."""
        shape = self.template.shape
        names = self.template.rows_around(path)
        nodes = nodes_on(self.template, path)
        # What a level further out leaves open may not be open here: the row of a list may be around.
        asked = [(atom, word) for node in nodes for atom, word in self.level(node).asked if is_open(shape, atom, names)]
        several = ids_for(names, asked)
        found = {}
        for world in every_choice(answers(shape, asked)):
            for ids in several:
                slots = [self.slot(node, ids, world) for node in nodes]
                if None not in slots:
                    case = Case(path, ids, world, slots)
                    found.setdefault((ids, case.labels, case.indexes), case)
        return list(found.values())

    def cases_by_form(self, path):
        """A dict from forms of labels to the cases of the node at the path that have them."""
        if path not in self.found_forms:
            table = {}
            for case in self.cases(path):
                table.setdefault(case.form, []).append(case)
            self.found_forms[path] = table
        return self.found_forms[path]

    def slot(self, path, ids, world):
        """The kind and the key value of a node, and the set of its indexes; None if it is not drawn."""
        level = self.level(path)
        ids = ids[:len(level.names)]
        mark = (path, ids, tuple([world.get(atom) for atom in level.atoms]))
        if mark not in self.found_slots:
            around = surroundings(self.template.shape, level.names, ids, world)
            self.found_slots[mark] = self.new_slot(level, around, world)
        return self.found_slots[mark]

    def new_slot(self, level, around, world):
        """The slot of a level with these rows around."""
        for test, many, wanted in level.conditions:
            if holds(test, around[:many + 1]) != wanted:
                return None
        start, several = self.ahead(level, around, world)
        return ((level.kind, value_of(level.key, around)), sums(start, several))

    def ahead(self, level, around, world):
        """How many nodes that count are ahead in any case, and the rows that may be ahead."""
        value = value_of(level.key, around)
        start = 0
        several = []
        for item, many in level.before:
            here = around[:many + 1]
            for one in unfolded([item], here):
                if one[0] != "for":
                    start += self.counts(level, value, one, here)
                elif not world.get(("empty", one[1]), False):
                    least = 1 if ("empty", one[1]) in world else 0
                    several.append(self.rows_ahead(level, value, one, here, ids_in(value), least))
        if level.passing is not None:
            # The row around has its id for itself.
            numbers = [number for number in ids_in(value) if number != around[-1]["id"]]
            several.append(self.rows_ahead(level, value, level.passing, around[:-1], numbers, 0))
        return start, several

    def rows_ahead(self, level, value, item, around, numbers, least):
        """The rows ahead of a list that a for goes through; the key value has ids with these numbers."""
        others = self.added(level, value, item, around, OTHER)
        single = [(number, self.added(level, value, item, around, number)) for number in numbers]
        # An id counts only if its row can add what no other row can add.
        single = [(number, added) for number, added in single if not all([many in others for many in added])]
        return Ahead(item[1], single, others, least)

    def added(self, level, value, item, around, number):
        """A dict from what a row with this id can add to the index to a row, without its id, that adds so much."""
        found = {}
        for body in self.bodies_of(level, item, len(around) - 1):
            here = around + [{"id": number, **body}]
            many = sum([self.counts(level, value, one, here) for one in unfolded(item[2], here)])
            found.setdefault(many, body)
        return found

    def bodies_of(self, level, item, many):
        """Rows without their ids for a for with so many rows around it."""
        mark = (item[1], level.key is not None)
        if mark not in self.found_bodies:
            self.found_bodies[mark] = bodies(self.template.shape, item, level.names[:many], level.key is not None)
        return self.found_bodies[mark]

    def counts(self, level, value, item, around):
        """1 if the node of an item counts for the index of a level whose key has this value, otherwise 0."""
        # A part and a group have their key directly ahead of their items.
        key = item[-2]
        if value is None:
            return 0 if self.plain and key is not None else 1
        kind = item[1] if item[0] == "part" else None
        return 1 if kind == level.kind and has_value(key, around, value) else 0


def unfolded(items, around):
    """The items with each if replaced by those that stand in its place."""
    found = []
    for item in items:
        if item[0] == "if":
            found.extend(unfolded(item[2] if holds(item[1], around) else item[3], around))
        else:
            found.append(item)
    return found
