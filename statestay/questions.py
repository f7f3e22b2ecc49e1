"""What keys and tests ask of the data.

A question is a pair of an atom and a word. An atom is one thing that data can answer in one way: ("flag", flag),
("empty", list), or ("field", list, field) and ("id", list) for the row of a list. Each list is gone through by at most
one for, so the name of its list is enough to tell which row is meant. The word is the one that a test compares a field
with, otherwise None.
"""


def asked_by_key(key, names):
    """The questions of a key with rows of the lists with these names around it."""
    if key is None or key[0] == "word":
        return []
    if key[0] == "both":
        return asked_by_key(key[1], names) + asked_by_key(key[2], names)
    if key[0] == "up":
        return asked_by_key(key[1], names[:-1])
    if key[0] == "id":
        return [(("id", names[-1]), None)]
    return [(("field", names[-1], key[1]), None)]


def asked_by_test(test, names):
    """The questions of a test with rows of the lists with these names around it."""
    if test[0] == "not":
        return asked_by_test(test[1], names)
    if test[0] == "up":
        return asked_by_test(test[1], names[:-1])
    if test[0] == "field":
        return [(("field", names[-1], test[1]), test[2])]
    # A flag and a list are named directly behind the word.
    return [(test, None)]


def asked_by_items(items, names, keyed):
    """The questions of items, but not of those below their nodes; those of keys only if keys are asked for."""
    found = []
    for item in items:
        if item[0] == "if":
            found.extend(asked_by_test(item[1], names))
            found.extend(asked_by_items(item[2] + item[3], names, keyed))
        elif item[0] == "for":
            found.extend(asked_by_items(item[2], names + (item[1],), keyed))
        elif keyed:
            # A part and a group have their key directly ahead of their items.
            found.extend(asked_by_key(item[-2], names))
    return found


def is_about(shape, atom, name):
    """Whether this is asked of a row of the list with this name."""
    if atom[0] == "empty":
        return shape.parent(atom[1]) == name
    return atom[0] == "field" and atom[1] == name


def is_open(shape, atom, names):
    """Whether the data, with rows of the lists with these names around, can answer this in more than one way."""
    if atom[0] == "field":
        return atom[1] in names
    if atom[0] == "empty":
        # A list whose row is around is not empty.
        return atom[1] not in names and shape.parent(atom[1]) in (None,) + names
    return True


def answers(shape, questions):
    """A dict from each atom, but those of ids, to answers that stand for all that the questions tell apart."""
    asked = {}
    for atom, word in questions:
        if atom[0] != "id":
            asked.setdefault(atom, []).append(word)
    return {atom: answers_to(shape, atom, words) for atom, words in asked.items()}


def answers_to(shape, atom, asked):
    """The answers that stand for all if a field is compared with these words, or must be told exactly for None."""
    if atom[0] != "field":
        return (False, True)
    words = shape.fields(atom[1])[atom[2]]
    if None in asked:
        return words
    others = [word for word in words if word not in asked]
    # No question tells the other words apart, so one of them stands for all.
    return tuple([word for word in words if word in asked] + others[:1])
