"""Texts: shapes, templates and data, written and read in lines of words."""

from statestay.errors import InvalidData, InvalidShape, InvalidText, LimitExceeded, NoList
from statestay.lines import data_form, item_form, key_words, line_of, read_lines, shape_form, words_of
from statestay.outlines import put_together
from statestay.shapes import Shape, check
from statestay.templates import Template


def write_shape(shape):
    """The text of a shape."""
    flags = [line_of(0, ["flag", flag]) for flag in shape.flags]
    return "".join(flags + [list_text(shape, name, 0) for name in shape.outer()])


def list_text(shape, name, level):
    """The lines of a list of a shape, with its fields and its inner list."""
    fields = shape.fields(name)
    lines = [line_of(level + 1, ["field", field] + list(fields[field])) for field in sorted(list(fields))]
    inner = [list_text(shape, one, level + 1) for one in shape.inner(name)]
    return "".join([line_of(level, ["list", name])] + lines + inner)


def read_shape(text):
    """The shape whose text this is."""
    flags = []
    # The dict in which a line can stand, by its level: that of all lists, of a list and of its inner list.
    around = [{"fields": {}, "inner": {}}]
    lists = around[0]["inner"]
    for level, words in read_lines(text, shape_form):
        if level >= len(around):
            raise InvalidText(0)
        around = around[:level + 1]
        if words[0] == "flag":
            flags.append(words[1])
        elif words[0] == "field":
            around[level]["fields"][words[1]] = tuple(words[2:])
        else:
            around.append({"fields": {}, "inner": {}})
            around[level]["inner"][words[1]] = around[level + 1]
    try:
        shape = Shape(flags, lists)
    except InvalidShape:
        raise InvalidText(0) from None
    # A text with these lines in another order or at other levels, or with a line twice, is not the written one.
    if write_shape(shape) != text:
        raise InvalidText(0)
    return shape


def write_template(template):
    """The text of the spread-out items of a template."""
    return items_text(template.spread(), 0)


def items_text(items, level):
    """The lines of items."""
    return "".join([item_text(item, level) for item in items])


def item_text(item, level):
    """The lines of an item and of the items in it."""
    if item[0] == "if":
        first = line_of(level, ["if"] + words_of(item[1])) + items_text(item[2], level + 1)
        return first + line_of(level, ["else"]) + items_text(item[3], level + 1)
    # Ahead of the items stands the list of a for, and the key of a part or a group, behind the kind of a part.
    end = [item[1]] if item[0] == "for" else key_words(item[-2])
    return line_of(level, list(item[:-2]) + end) + items_text(item[-1], level + 1)


def read_template(shape, text):
    """The template for the shape that the lines of the text tell."""
    lines = read_lines(text, item_form)
    if text != "" and not text.endswith("\n"):
        raise InvalidText(0)
    items, pieces = put_together(lines)
    return Template(shape, items, pieces=pieces)


def write_data(shape, data):
    """The text of data of a shape."""
    check(shape, data)
    flags = [line_of(0, ["flag", flag, "yes" if data["flags"][flag] else "no"]) for flag in shape.flags]
    return "".join(flags) + lists_text(data["lists"], 0)


def lists_text(lists, level):
    """The lines of lists of rows."""
    several = []
    for name in sorted(list(lists)):
        several.append(line_of(level, ["list", name]))
        for row in lists[name]:
            words = [row["fields"][field] for field in sorted(list(row["fields"]))]
            several.append(line_of(level + 1, ["row", str(row["id"])] + words))
            several.append(lists_text(row["lists"], level + 2))
    return "".join(several)


def read_data(shape, text):
    """The data of the shape whose text this is."""
    data = {"flags": {}, "lists": {}}
    # What a line can stand in, by its level: the data, a pair of a name and the rows of a list, a row, and so on.
    around = [data]
    for level, words in read_lines(text, data_form):
        # A row stands in a list, the others do not.
        if level >= len(around) or (words[0] == "row") != isinstance(around[level], tuple):
            raise InvalidText(0)
        around = around[:level + 1]
        if words[0] == "flag":
            data["flags"][words[1]] = words[2] == "yes"
        elif words[0] == "list":
            around.append((words[1], []))
            around[level]["lists"][words[1]] = around[level + 1][1]
        else:
            around.append(row_of(shape, around[level][0], words))
            around[level][1].append(around[level + 1])
    try:
        whole = write_data(shape, data)
    except (InvalidData, LimitExceeded):
        raise InvalidText(0) from None
    # A text with these lines in another order or at other levels, or with a line twice, is not the written one.
    if whole != text:
        raise InvalidText(0)
    return data


def row_of(shape, name, words):
    """The row of the list that the words of a line tell, without its inner rows."""
    try:
        fields = sorted(list(shape.fields(name)))
    except NoList:
        raise InvalidText(0) from None
    if len(fields) != len(words) - 2:
        raise InvalidText(0)
    return {"id": int(words[1]), "fields": {field: word for field, word in zip(fields, words[2:])}, "lists": {}}
