"""Lines of texts: their levels and words, and the forms that the words of a line can have."""

from statestay.errors import InvalidText
from statestay.fits import MOST_NESTED
from statestay.forms import has_form, is_word

TESTS = (("flag", 2), ("field", 3), ("empty", 2))
SHAPES = (("flag", 2), ("list", 2), ("field", 4), ("field", 5))
DIGITS = "0123456789"


def line_of(level, words):
    """A line of these words at this level."""
    return "  " * level + " ".join(words) + "\n"


def read_lines(text, form_of):
    """Pairs of the level of each line and of what a function tells of its words; it tells None if they have no form."""
    found = []
    rows = text.split("\n")
    if rows[-1] == "":
        # Behind the last newline stands no line.
        rows = rows[:-1]
    for at, row in enumerate(rows):
        words = row.lstrip(" ")
        spaces = len(row) - len(words)
        told = form_of(words.split(" ")) if spaces & 1 == 0 else None
        if told is None:
            raise InvalidText(at + 1)
        found.append((spaces // 2, told))
    return found


def all_words(several):
    """Whether all of them are words."""
    return all([is_word(one) for one in several])


def shape_form(words):
    """The words of a line of a shape; None if it has no form."""
    return words if has_form(tuple(words), SHAPES) and all_words(words) else None


def data_form(words):
    """The words of a line of data; None if it has no form."""
    if words[0] == "row":
        fine = 2 <= len(words) <= 4 and is_number(words[1]) and all_words(words[2:])
    elif words[0] == "flag":
        fine = len(words) == 3 and is_word(words[1]) and words[2] in ("yes", "no")
    else:
        fine = words[0] == "list" and len(words) == 2 and is_word(words[1])
    return words if fine else None


def is_number(text):
    """Whether these are one to seven digits without a leading zero."""
    if not 1 <= len(text) <= 7 or not all([letter in DIGITS for letter in text]):
        return False
    return text[0] != "0" or text == "0"


def item_form(words):
    """An item without the items in it, or another line of a template, as a tuple; None if the line has no form."""
    if words in (["else"], ["slot"]):
        return tuple(words)
    if words[0] == "if":
        test = test_of(words[1:])
        return None if test is None else ("if", test)
    if words[0] in ("for", "piece", "define"):
        return tuple(words) if len(words) == 2 and is_word(words[1]) else None
    # A part has its kind between the first word and the key.
    many = 2 if words[0] == "part" else 1
    if words[0] not in ("part", "group") or not all_words(words[1:many]):
        return None
    if words[many:] == ["none"]:
        return tuple(words[:many]) + (None,)
    key, end = key_from(words, many, MOST_NESTED)
    return None if key is None or end != len(words) else tuple(words[:many]) + (key,)


def key_from(words, at, deep):
    """The key, nested at most so deep, whose words begin at an index, and the index behind them; None for no key."""
    form = words[at] if at < len(words) and deep > 0 else ""
    if form == "id":
        return ("id",), at + 1
    if form in ("word", "field"):
        fine = at + 1 < len(words) and is_word(words[at + 1])
        return (form, words[at + 1]) if fine else None, at + 2
    if form not in ("up", "both"):
        return None, at
    first, end = key_from(words, at + 1, deep - 1)
    if first is None or form == "up":
        return None if first is None else ("up", first), end
    second, end = key_from(words, end, deep - 1)
    return None if second is None else ("both", first, second), end


def test_of(words):
    """The test that these words say; None if they say none."""
    many = 0
    while many < len(words) and words[many] in ("up", "not"):
        many += 1
    test = tuple(words[many:])
    if many >= MOST_NESTED or not has_form(test, TESTS) or not all_words(test):
        return None
    for word in reversed(list(words[:many])):
        test = (word, test)
    return test


def words_of(value):
    """The words that say a key other than None, or a test."""
    words = []
    for part in value:
        words.extend(words_of(part) if isinstance(part, tuple) else [part])
    return words


def key_words(key):
    """The words that say a key."""
    return ["none"] if key is None else words_of(key)
