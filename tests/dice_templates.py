"""Templates in which parts meet often: few kinds, few keys, many ifs and fors. Dice with a seed of its own choose."""

import expected
from samples import one

MARK = {"mark": ("new", "old")}
WORDS = "abcdefghijklmnopqrstuvwx"


def specs():
    """Shapes with 0 to 2 flags, and one list with a field, one with an inner list, two lists, two with fields."""
    return [
        ([], {"todo": one(MARK)}), (["on"], {"todo": one(MARK)}), (["on"], {"todo": one({}, {"step": one()})}),
        (["on"], {"todo": one(MARK, {"step": one()})}), ([], {"todo": one(MARK, {"step": one(MARK)})}),
        (["on"], {"todo": one(), "menu": one()}), (["on", "dark"], {"todo": one(), "menu": one()}),
        (["on"], {"todo": one(MARK), "menu": one(MARK)}),
        (["on"], {"todo": one({}, {"step": one()}), "menu": one({}, {"bite": one()})}),
        ([], {"todo": one({"mark": ("new", "old", "odd"), "tone": ("new", "red")})}),
        # Flags, fields, lists and words may have the names of one another and of forms.
        (["todo", "id"], {"todo": one({"todo": ("todo", "id")}, {"id": one({"todo": ("new", "id")})})}),
        (["flag"], {"field": one({"field": ("empty", "field")}, {"empty": one()}), "id": one({"id": ("word", "id")})}),
    ]


def full(number, rows):
    """A key with a word of its own and the ids of all rows around, from the innermost one outward."""
    key, found = ("word", WORDS[number]), ("id",)
    for row in rows:
        key, found = ("both", key, found), ("up", found)
    return key


def key(dice, spec, rows):
    """A key from a small number of keys."""
    fields = sorted(expected.fields_here(spec, rows))
    several = [("word", "w"), ("word", "x")]
    if rows:
        above = key(dice, spec, rows[:-1])
        several += [("id",)] * 4 + [("both", ("word", "w"), ("id",))]
        several += [("field", field) for field in fields] * 2
        several += [("up", above)] if expected.nested(above) < 4 else []
        first, second = [dice.choice(several) for part in range(2)]
        if max(expected.nested(first), expected.nested(second)) < 4:
            several += [("both", first, second)] * 2
    if len(rows) > 1:
        several += [("up", ("id",)), ("both", ("up", ("id",)), ("id",)), ("both", ("id",), ("up", ("id",)))]
    return dice.choice(several)


def test(dice, spec, rows):
    """A test, or None if there is none."""
    several = [("flag", flag) for flag in spec[0]] * 2 + [("empty", name) for name in expected.lists_here(spec, rows)]
    for field, words in expected.fields_here(spec, rows).items():
        several += [("field", field, dice.choice(words))] * 2
    if rows:
        above = test(dice, spec, rows[:-1])
        several += [("up", above)] if above and expected.nested(above) < 4 else []
    chosen = dice.choice(several) if several else None
    return ("not", chosen) if chosen and expected.nested(chosen) < 4 and dice.random() < 0.3 else chosen


def some_items(dice, spec, left, room, keyed, rows=(), bare=False, deep=1):
    """Items; left are the lists that no for goes through yet, and room has a number for each item still to come."""
    items = []
    for at in range(dice.choice([1, 2, 3, 4] if deep == 1 else [0, 1, 1, 2, 3])):
        if not room:
            break
        room.pop()
        free = [name for name in expected.lists_here(spec, rows) if name in left and not bare]
        form = dice.choice(["part"] * 4 + ["group"] + ["if"] * 3 * (deep < 6) + ["for"] * 5 * bool(free))
        if form == "for":
            name = dice.choice(free)
            left.remove(name)
            items.append((form, name, some_items(dice, spec, left, room, keyed, rows + (name,), True, deep + 1)))
        elif form == "if":
            asked = test(dice, spec, rows)
            several = [some_items(dice, spec, left, room, keyed, rows, bare, deep + 1) for number in range(2)]
            items.extend([(form, asked) + tuple(several)] if asked else several[0])
        else:
            chosen = key(dice, spec, rows) if dice.random() < keyed else None
            inside = []
            if deep < 6 and dice.random() < (0.9 if form == "group" else 0.35):
                inside = some_items(dice, spec, left, room, keyed, rows, False, deep + 1)
            items.append((form, dice.choice("aaab"), chosen, inside) if form == "part" else (form, chosen, inside))
    return items


def items(dice, spec):
    """Items of a template, with no keys, or with keys at some nodes."""
    keyed = dice.choice([0, 0.6, 0.6, 0.9])
    while True:
        found = some_items(dice, spec, list(expected.all_lists(spec)), list(range(22)), keyed)
        forms = [item[0] for path, item in expected.listed(found)]
        if expected.template_error(spec, found, None) is None and ("for" in forms or "if" in forms):
            return found


def with_full_keys(items, numbers=None, rows=()):
    """The items with a full key for each node, which has a word of its own."""
    numbers = list(range(23, -1, -1)) if numbers is None else numbers
    found = []
    for item in items:
        within = rows + (item[1],) if item[0] == "for" else rows
        chosen = full(numbers.pop(), rows) if item[0] in ("part", "group") else None
        lists = [with_full_keys(inner, numbers, within) for inner in expected.inner_lists(item)]
        item = item[:2] + (chosen,) + item[3:] if item[0] == "part" else item
        item = item[:1] + (chosen,) + item[2:] if item[0] == "group" else item
        found.append(expected.rebuilt(item, lists))
    return found
