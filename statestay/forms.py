"""Tests of the form of a value. The value may be anything that is built from plain values."""


def is_word(value):
    """Whether this is a string of 1 to 8 letters a to z."""
    if not isinstance(value, str) or not 1 <= len(value) <= 8:
        return False
    return all(["a" <= letter <= "z" for letter in value])


def are_words(values, least, most):
    """Whether the items of this list or tuple are so many words, no two of them alike."""
    if not least <= len(values) <= most or not all([is_word(value) for value in values]):
        return False
    return len(set(values)) == len(values)


def is_integer(value, least, most):
    """Whether this is an integer in these bounds. True and False are none."""
    return isinstance(value, int) and not isinstance(value, bool) and least <= value <= most


def has_names(value, names):
    """Whether this is a dict whose keys are exactly these strings, each of them given once."""
    # The keys may be tuples nested to any depth, so they are not gathered in a set.
    return isinstance(value, dict) and len(value) == len(names) and all([name in value for name in names])


def is_named(value, most):
    """Whether this is a dict of at most so many entries whose keys are words."""
    return isinstance(value, dict) and len(value) <= most and all([is_word(key) for key in value])


def has_form(value, forms):
    """Whether this is a tuple whose first part and whose length are one of these pairs."""
    # The first part may be a list: it is compared here, never looked up as a key.
    return isinstance(value, tuple) and len(value) > 0 and (value[0], len(value)) in forms
