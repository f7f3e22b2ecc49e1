"""Copies of values that are built from lists, tuples and dicts."""


def fresh(value):
    """A copy of the value that shares no list and no dict with it, nor with another part of itself."""
    if isinstance(value, list):
        return [fresh(one) for one in value]
    if isinstance(value, tuple):
        return tuple([fresh(one) for one in value])
    if isinstance(value, dict):
        return {key: fresh(one) for key, one in value.items()}
    return value
