"""Shapes, data and templates that several tests use. Each function returns new values."""

import itertools

PLAIN = ([], {})


def one(fields=None, inner=None):
    """A list shape."""
    return {"fields": fields or {}, "inner": inner or {}}


def list_shapes(name):
    """List shapes with 0 to 2 fields of 2 or 3 words, without and with an inner list of this name."""
    two = {"mark": ("new", "old")}
    three = {"tone": ("red", "green", "blue"), "mark": ("old", "new")}
    for fields in ({}, two, {"a": ("z", "b", "y")}, three):
        for inner in ({}, {name: one()}, {name: one({"mark": ("yes", "no", "odd")})}, {name: one(three)}):
            yield one(dict(fields), {key: one(inner[key]["fields"]) for key in inner})


def specs():
    """Pairs (flags, lists) of every sort."""
    flags = ([], ["on"], ("on",), ["open", "dark"], ("dark", "open"))
    several = [{}] + [{"todo": shape} for shape in list_shapes("step")]
    pairs = itertools.product(list(list_shapes("step"))[::3], list(list_shapes("note"))[::2])
    several += [{"todo": first, "all": second} for first, second in pairs]
    return [(flags[at % 5], lists) for at, lists in enumerate(several)] + [(several, {}) for several in flags]


def rich():
    """A spec with all that a shape can have."""
    step = one({"size": ("small", "large"), "mark": ("new", "old", "odd")})
    todo = one({"tone": ("red", "green", "blue"), "mark": ("new", "old")}, {"step": step})
    menu = one({"dish": ("soup", "cake")}, {"bite": one()})
    return ["open", "dark"], {"todo": todo, "menu": menu}


def rich_data():
    """Data of the rich shape: ids 0 and 1000000, and equal ids in unlike lists."""
    def step(number, size, mark):
        return {"id": number, "fields": {"size": size, "mark": mark}, "lists": {}}

    def todo(number, tone, mark, steps):
        return {"id": number, "fields": {"tone": tone, "mark": mark}, "lists": {"step": steps}}

    def menu(number, dish, bites):
        rows = [{"id": bite, "fields": {}, "lists": {}} for bite in bites]
        return {"id": number, "fields": {"dish": dish}, "lists": {"bite": rows}}

    todos = [
        todo(0, "red", "new", [step(0, "small", "odd"), step(5, "large", "new")]),
        todo(1000000, "green", "old", []),
        todo(5, "blue", "new", [step(5, "small", "old")]),
    ]
    return {"flags": {"open": True, "dark": False}, "lists": {"todo": todos, "menu": [menu(5, "cake", [5, 0])]}}


def part(kind="a", key=None, items=()):
    return ("part", kind, key, list(items))


def group(items=(), key=None):
    return ("group", key, list(items))


def chain(many, inside=()):
    """Items nested so many deep."""
    items = list(inside)
    for step in range(many):
        items = [group(items)]
    return items


def rich_items():
    """Items, and pieces for them, of every form for the rich shape; 24 items when they are spread out."""
    steps = ("for", "step", [
        part("step", ("both", ("id",), ("up", ("field", "tone")))),
        ("if", ("up", ("not", ("field", "mark", "old"))), [part("c", ("field", "size"))], [group()]),
    ])
    todos = ("for", "todo", [
        part("row", ("id",), [("if", ("empty", "step"), [part("b")], [steps])]),
        ("if", ("flag", "open"), [("piece", "frame", [part("d", ("up", ("word", "w")))])], []),
    ])
    menus = ("for", "menu", [group([("for", "bite", [part("bite", ("up", ("id",)))])], ("field", "dish"))])
    items = [
        ("piece", "frame", [todos, ("piece", "line", [part("gone", 5)])]),
        ("if", ("not", ("empty", "menu")), [menus], [("piece", "frame", [])]),
    ]
    pieces = {
        "frame": [part("head", ("word", "top")), group([("slot",)])],
        "line": [part("line"), part("line")],
        "never": [part(7, [], [("if", "no test", [("slot",)], [("for", {}, [])])])],
    }
    return items, pieces
