"""What the document says of texts, written down a second time and in another way: forms are regular expressions, and
what is read is taken line by line in the one order in which it may stand."""

import re

import expected

W = "[a-z]{1,8}"


def nested(leaf, one, two):
    """An expression for what is nested at most four deep."""
    found = leaf
    for deep in range(3):
        several = [leaf, f"(?:{one}) {found}"] + ([f"{two} {found} {found}"] if two else [])
        found = "(?:" + "|".join(several) + ")"
    return found


KEY = nested(f"(?:word {W}|id|field {W})", "up", "both")
TEST = nested(f"(?:flag {W}|field {W} {W}|empty {W})", "up|not", None)
FORMS = {
    "shape": f"flag {W}|list {W}|field {W} {W} {W}|field {W} {W} {W} {W}",
    "data": f"flag {W} yes|flag {W} no|list {W}|row (?:0|[1-9][0-9]{{0,6}})(?: {W}){{0,2}}",
    "template": f"part {W} (?:none|{KEY})|group (?:none|{KEY})|if {TEST}|else|for {W}|define {W}|piece {W}|slot",
}
PATTERNS = {name: re.compile(f"(?:  )*(?:{form})") for name, form in FORMS.items()}


# Writing

def indented(level, words):
    return " " * (2 * level) + " ".join(words)


def as_text(lines):
    return "".join([line + "\n" for line in lines])


def words_of(value):
    """The words of a key or a test."""
    return re.findall("[a-z]+", repr(value)) if value is not None else ["none"]


def shape_text(spec):
    lines = [indented(0, ["flag", flag]) for flag in sorted(spec[0])]
    for name, shape in sorted(spec[1].items()):
        for level, (one, held) in enumerate([(name, shape)] + list(shape["inner"].items())):
            lines.append(indented(level, ["list", one]))
            for field, words in sorted(held["fields"].items()):
                lines.append(indented(level + 1, ["field", field, *words]))
    return as_text(lines)


def template_text(items, pieces=None):
    """The text of items as they are written, behind defines for the pieces."""
    lines = []
    for name in pieces or {}:
        lines += [indented(0, ["define", name])] + item_lines(pieces[name], 1)
    return as_text(lines + item_lines(items, 0))


def item_lines(items, level):
    lines = []
    for item in items:
        form = item[0]
        words = {"part": lambda: [item[1]] + words_of(item[2]), "group": lambda: words_of(item[1]),
                 "if": lambda: words_of(item[1]), "for": lambda: [item[1]], "piece": lambda: [item[1]],
                 "slot": lambda: []}[form]()
        lines.append(indented(level, [form] + words))
        for number, inner in enumerate(expected.inner_lists(item)):
            lines += [indented(level, ["else"])] * number + item_lines(inner, level + 1)
    return lines


def data_text(spec, data):
    lines = [indented(0, ["flag", flag, {True: "yes", False: "no"}[data["flags"][flag]]]) for flag in sorted(spec[0])]
    for name in sorted(spec[1]):
        lines.append(indented(0, ["list", name]))
        for row in data["lists"][name]:
            lines.append(row_line(1, row))
            for inner in spec[1][name]["inner"]:
                lines.append(indented(2, ["list", inner]))
                lines += [row_line(3, step) for step in row["lists"][inner]]
    return as_text(lines)


def row_line(level, row):
    return indented(level, ["row", str(row["id"])] + [word for field, word in sorted(row["fields"].items())])


# Reading

class Misfit(Exception):
    """The lines do not fit together."""


def lines_of(form, text):
    """Pairs of a level and the words of each line, or the number of the first line without a form."""
    rows = text.split("\n")
    rows = rows[:-1] if rows[-1] == "" else rows
    for number, row in enumerate(rows, 1):
        if not PATTERNS[form].fullmatch(row):
            return number
    return [((len(row) - len(row.lstrip())) // 2, row.split()) for row in rows]


def need(fine):
    if not fine:
        raise Misfit


class Lines:
    """Lines that are taken one after the other."""

    def __init__(self, lines):
        self.left = list(lines)

    def take(self, level, word):
        """The words behind the first one of the next line, if it has this level and this first word; else None."""
        if self.left and self.left[0][0] == level and self.left[0][1][0] == word:
            return self.left.pop(0)[1][1:]
        return None

    def all(self, level, word):
        found = []
        while (words := self.take(level, word)) is not None:
            found.append(words)
        return found


def reading(form, text, read):
    """What a reading leads to: ("told", value) or the name of an error and its values."""
    lines = lines_of(form, text)
    if type(lines) is int:
        return ("InvalidText", lines)
    try:
        need(text == "" or text[-1] == "\n")
        return read(lines)
    except Misfit:
        return ("InvalidText", 0)


def shape_reading(text):
    """("told", spec) or the error."""
    return reading("shape", text, read_shape)


def read_shape(lines):
    rest = Lines(lines)
    flags = [words[0] for words in rest.all(0, "flag")]
    need(flags == sorted(flags))
    lists = read_list_shapes(rest, 0)
    need(not rest.left)
    need(expected.shape_part(flags, lists) is None)
    return ("told", (flags, lists))


def read_list_shapes(rest, level):
    found = {}
    while (words := rest.take(level, "list")) is not None:
        need(not found or words[0] > max(found))
        fields = rest.all(level + 1, "field")
        names = [field[0] for field in fields]
        need(names == sorted(set(names)))
        inner = read_list_shapes(rest, level + 1) if level < 3 else {}
        found[words[0]] = {"fields": {field[0]: tuple(field[1:]) for field in fields}, "inner": inner}
    return found


def data_reading(spec, text):
    """("told", data) or the error."""
    return reading("data", text, lambda lines: read_data(spec, lines))


def read_data(spec, lines):
    rest = Lines(lines)
    flags = {}
    for flag in sorted(spec[0]):
        words = rest.take(0, "flag")
        need(words and words[0] == flag)
        flags[flag] = words[1] == "yes"
    data = {"flags": flags, "lists": read_lists(spec[1], rest, 0)}
    need(not rest.left)
    need(expected.data_error(spec, data) is None)
    return ("told", data)


def read_lists(shapes, rest, level):
    found = {}
    for name in sorted(shapes):
        need(rest.take(level, "list") == [name])
        found[name] = []
        fields = sorted(shapes[name]["fields"])
        while (words := rest.take(level + 1, "row")) is not None:
            need(len(words) == 1 + len(fields))
            inner = read_lists(shapes[name]["inner"], rest, level + 2)
            found[name].append({"id": int(words[0]), "fields": dict(zip(fields, words[1:])), "lists": inner})
    return found


def template_reading(spec, text):
    """("told", items, pieces) or the error."""
    def read(lines):
        need(fit_together(lines))
        defines = [(start, end) for start, end in blocks(lines, 0, len(lines), 0) if lines[start][1][0] == "define"]
        pieces = {lines[start][1][1]: read_items(lines, start + 1, end, 1) for start, end in defines}
        top = read_items(lines, max([end for start, end in defines], default=0), len(lines), 0)
        error = expected.template_error(spec, top, pieces)
        return ("InvalidTemplate",) + error if error else ("told", top, pieces)

    return reading("template", text, read)


def fit_together(lines):
    """Whether the lines of a template fit together; each rule looks at all lines anew."""
    levels = [level for level, words in lines]
    words = [words for level, words in lines]
    jumps = [here <= before + 1 for before, here in zip([-1] + levels, levels)]
    below = [here <= before or word != ["slot"] for before, here, word in zip(levels, levels[1:], words)]
    fine = all(jumps) and all(below) and all(level <= 8 for level in levels)
    for at, (level, word) in enumerate(lines):
        if word[0] == "if":
            behind = [other for other in lines[at + 1:] if other[0] <= level][:1]
            fine = fine and behind == [(level, ["else"])]
        if word[0] == "else":
            ahead = [other for other in lines[:at] if other[0] <= level][-1:]
            fine = fine and [(one, other[0]) for one, other in ahead] == [(level, "if")]
        if word[0] == "define":
            others = [other for one, other in lines[:at] if one == 0]
            fine = fine and level == 0 and all(other[0] == "define" and other != word for other in others)
    return fine


def blocks(lines, start, end, level):
    """The pairs of the index of each line at a level and the index behind all that is deeper behind it."""
    heads = [at for at in range(start, end) if lines[at][0] == level] + [end]
    return list(zip(heads, heads[1:]))


def read_items(lines, start, end, level):
    items = []
    for head, behind in blocks(lines, start, end, level):
        word, *rest = lines[head][1]
        inner = read_items(lines, head + 1, behind, level + 1)
        if word == "else":
            items[-1] = items[-1][:3] + (inner,)
        else:
            items.append({
                "part": lambda: (word, rest[0], read_key(rest[1:]), inner), "slot": lambda: (word,),
                "group": lambda: (word, read_key(rest), inner), "if": lambda: (word, read_test(rest), inner, []),
                "for": lambda: (word, rest[0], inner), "piece": lambda: (word, rest[0], inner),
            }[word]())
    return items


def read_key(words):
    """The key that these words say: open keys lie on a pile until all their parts are there."""
    if words == ["none"]:
        return None
    several = iter(words)
    pile = [[]]
    for word in several:
        if word in ("up", "both"):
            pile.append([word])
            continue
        key = (word,) if word == "id" else (word, next(several))
        while pile[-1][:1] == ["up"] or pile[-1][:1] == ["both"] and len(pile[-1]) == 2:
            key = (*pile.pop(), key)
        pile[-1].append(key)
    return pile[0][0]


def read_test(words):
    """The test that these words say."""
    many = len(re.match("(up |not )*", " ".join(words)).group().split())
    test = tuple(words[many:])
    for word in words[:many][::-1]:
        test = (word, test)
    return test
