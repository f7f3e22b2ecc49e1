"""Worlds: answers to what a template asks of data, and data and rows that give these answers.

Where it only counts whether a list is empty, one that is not holds None. So these data are none of a shape yet.
"""

from statestay.questions import answers, asked_by_items, is_about
from statestay.shapes import every_choice


def surroundings(shape, names, ids, world):
    """The data, and the rows of the lists with these names and ids, outermost first, that give the answers."""
    around = [{
        "flags": {flag: world.get(("flag", flag), False) for flag in shape.flags},
        "lists": {name: list_in(world, name, False) for name in shape.outer()},
    }]
    for name, number in zip(names, ids):
        # What is not asked of a list may be a list whose row is around, so it is taken not to be empty.
        around.append({"id": number, **body_of(shape, name, world, False)})
    return around


def body_of(shape, name, world, empty):
    """A row of the list without its id; its inner list is empty or not where nothing is answered."""
    fields = shape.fields(name)
    return {
        "fields": {field: world.get(("field", name, field), words[0]) for field, words in fields.items()},
        "lists": {inner: list_in(world, inner, empty) for inner in shape.inner(name)},
    }


def list_in(world, name, empty):
    """A list that is empty as it is answered, or as told where nothing is answered."""
    return [] if world.get(("empty", name), empty) else [None]


def bodies(shape, item, names, keyed):
    """Rows without their ids that stand for all rows of the list that a for goes through."""
    asked = asked_by_items(item[2], names + (item[1],), keyed)
    about = [(atom, word) for atom, word in asked if is_about(shape, atom, item[1])]
    return [body_of(shape, item[1], world, True) for world in every_choice(answers(shape, about))]
