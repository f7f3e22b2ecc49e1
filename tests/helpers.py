"""What the tests share: odd values, values with something spoiled, and what a call raises."""

import copy

from statestay import errors

ATTRIBUTES = {
    "InvalidShape": ("part",), "NoList": ("name",), "InvalidData": ("path",), "LimitExceeded": ("limit",),
    "InvalidTemplate": ("part", "path"), "NoItem": ("path",), "InvalidRule": ("place",), "NoPart": ("owner",),
    "InvalidShift": ("shift",), "InvalidDeed": ("reason",), "InvalidRepair": ("repair",), "InvalidText": ("line",),
    "NothingToUndo": (), "NothingToRedo": (),
}


def deep(many, make, inside="a"):
    """A value nested so many deep."""
    for step in range(many):
        inside = make(inside)
    return inside


DEEP = [
    deep(48, lambda one: [one]), deep(48, lambda one: (one,)), deep(48, lambda one: {"a": one}),
    {deep(48, lambda one: (one,)): 1}, deep(48, lambda one: ("not", one)), deep(48, lambda one: ("up", one)),
    deep(48, lambda one: ("both", one, ("word", "a"))), deep(48, lambda one: ("group", None, [one])),
]
ODD = [
    None, True, False, 0, 1, -1, 1000000, 1000001, 10 ** 30, "", "a", "new", "Ab", "abcdefgh", "abcdefghi", "a1",
    "a b", "a\n", "ab`", "{a", "\u00e9", "on", "todo", "step", [], (), {}, [1], [[]], ("a",), ("a", "b"), ["a", "b"],
    ("id",), ("slot",), {"a": 1}, {None: 1}, {True: None}, {3: []}, {((1,), 2): "x"}, {"fields": {}, "inner": {}},
] + DEEP
ODD_KEYS = ["x", "zz", "Ab", "", "abcdefghi", "step", "fields", None, True, 0, 7, (), (1, (2,)), DEEP[1]]


def told(error):
    """The name of an error's class and the values of its attributes."""
    name = type(error).__name__
    return (name,) + tuple(getattr(error, attribute) for attribute in ATTRIBUTES[name])


def outcome(call, *args, **more):
    """What a call raises, or None. Errors that are not the program's come through."""
    try:
        call(*args, **more)
    except errors.StayError as error:
        return told(error)
    return None


def exactly(value):
    """The value as a text in which the order of the keys of a dict does not count, but 1 and True differ."""
    if isinstance(value, dict):
        return "{" + ", ".join(sorted(f"{key!r}: {exactly(one)}" for key, one in value.items())) + "}"
    if isinstance(value, (list, tuple)):
        return type(value).__name__ + "(" + ", ".join([exactly(one) for one in value]) + ")"
    return repr(value)


def clear(value):
    """Empties every list and every dict in a value."""
    if isinstance(value, (list, tuple)):
        for one in value:
            clear(one)
    if isinstance(value, dict):
        for one in value.values():
            clear(one)
    if isinstance(value, (list, dict)):
        value.clear()


def variants(value):
    """Yields values that differ from the value in one place, at any depth."""
    for odd in ODD:
        yield odd
    if isinstance(value, dict):
        for odd in ODD_KEYS:
            yield {**value, odd: next(iter(value.values()), 1)}
        for key in value:
            rest = {one: value[one] for one in value if one != key}
            yield rest
            for odd in ODD_KEYS:
                yield {**rest, odd: value[key]}
            for inner in variants(value[key]):
                yield {**value, key: inner}
    if isinstance(value, (list, tuple)):
        make = type(value)
        yield tuple(value) if make == list else list(value)
        for at in range(len(value)):
            yield value[:at] + value[at + 1:]
            yield value[:at] + value[at:at + 1] + value[at:]
            for inner in variants(value[at]):
                yield value[:at] + make([inner]) + value[at + 1:]


def spoiled(value, dice):
    """The value with one thing changed at a place that the dice choose."""
    many = len(value) if isinstance(value, (dict, list, tuple)) else 0
    if many == 0 or dice.random() < 0.12:
        return copy.deepcopy(dice.choice(ODD))
    if isinstance(value, dict):
        key = dice.choice(list(value))
        rest = {one: value[one] for one in value if one != key}
        what = dice.random()
        if what < 0.1:
            return rest
        if what < 0.2:
            return {**rest, dice.choice(ODD_KEYS): value[key]}
        if what < 0.3:
            return {**value, dice.choice(ODD_KEYS): value[key]}
        return {**value, key: spoiled(value[key], dice)}
    at = dice.randrange(many)
    what = dice.random()
    if what < 0.08:
        return value[:at] + value[at + 1:]
    if what < 0.16:
        return value[:at] + value[at:at + 1] + value[at:]
    return value[:at] + type(value)([spoiled(value[at], dice)]) + value[at + 1:]
