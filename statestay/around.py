"""What keys and tests mean for given rows around.

The rows around are given as a list of the data and of these rows, outermost first. The data stand first because they
hold the outer lists as a row holds its inner lists.
"""


def value_of(key, around):
    """The value of a key."""
    if key is None:
        return None
    if key[0] == "id":
        return ("id", around[-1]["id"])
    if key[0] == "field":
        return ("field", around[-1]["fields"][key[1]])
    if key[0] == "up":
        return value_of(key[1], around[:-1])
    if key[0] == "both":
        return ("both", value_of(key[1], around), value_of(key[2], around))
    return ("word", key[1])


def has_value(key, around, value):
    """Whether a key has this value; it is looked at only as far as it can tell."""
    if key is None or value is None:
        return key is None and value is None
    if key[0] == "up":
        return has_value(key[1], around[:-1], value)
    if key[0] == "both":
        return value[0] == "both" and has_value(key[1], around, value[1]) and has_value(key[2], around, value[2])
    return value_of(key, around) == value


def holds(test, around):
    """Whether a test holds."""
    if test[0] == "flag":
        return around[0]["flags"][test[1]]
    if test[0] == "field":
        return around[-1]["fields"][test[1]] == test[2]
    if test[0] == "empty":
        return len(around[-1]["lists"][test[1]]) == 0
    if test[0] == "up":
        return holds(test[1], around[:-1])
    return not holds(test[1], around)
