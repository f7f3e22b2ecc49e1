"""What fits in a place of a template, told by the names of the lists of the rows around it."""

from statestay.forms import has_form, is_word

KEYS = (("word", 2), ("id", 1), ("field", 2), ("up", 2), ("both", 3))
TESTS = (("flag", 2), ("field", 3), ("empty", 2), ("up", 2), ("not", 2))
MOST_NESTED = 4


def key_fits(shape, key, around):
    """Whether this is a key for these rows around."""
    return key is None or is_key(shape, key, around, MOST_NESTED)


def is_key(shape, key, around, deep):
    """Whether this is a key other than None that is nested at most so deep."""
    if deep == 0 or not has_form(key, KEYS):
        return False
    if key[0] == "word":
        return is_word(key[1])
    if key[0] == "both":
        return is_key(shape, key[1], around, deep - 1) and is_key(shape, key[2], around, deep - 1)
    if len(around) == 0:
        return False
    if key[0] == "up":
        return is_key(shape, key[1], around[:-1], deep - 1)
    return key[0] == "id" or key[1] in list(shape.fields(around[-1]))


def test_fits(shape, test, around):
    """Whether this is a test for these rows around."""
    return is_test(shape, test, around, MOST_NESTED)


def is_test(shape, test, around, deep):
    """Whether this is a test that is nested at most so deep."""
    if deep == 0 or not has_form(test, TESTS):
        return False
    if test[0] == "flag":
        return test[1] in shape.flags
    if test[0] == "not":
        return is_test(shape, test[1], around, deep - 1)
    if test[0] == "empty":
        return list_fits(shape, test[1], around)
    if len(around) == 0:
        return False
    if test[0] == "up":
        return is_test(shape, test[1], around[:-1], deep - 1)
    return field_has(shape.fields(around[-1]), test[1], test[2])


def field_has(fields, name, word):
    """Whether the field with this name may have this word."""
    # The name may be a list: it is compared with names, never looked up as a key.
    return name in list(fields) and word in fields[name]


def list_fits(shape, name, around):
    """Whether a list has this name and can be meant with these rows around."""
    if len(around) == 0:
        return name in shape.outer()
    return name in shape.inner(around[-1])
