"""Sets of integers from 0 to 2047, each kept as one integer: bit k is set if k is in the set.

An index of a node is the sum of what the rows ahead of it add to it. One row adds less than 24, as a template has no
more items. If two such sets of sums have an integer in common, then one below 2048: the rows of both can be put in an
order in which the two sums so far never differ by more than a row adds, and no difference has to come twice.
"""

BITS = 2048
FULL = (1 << 2048) - 1


class Ahead:
    """The rows of one list that stand ahead of a node."""

    def __init__(self, name, single, others, least):
        """Keep the name of the list, what its rows can add, and how many rows there are at least."""
        self.name = name
        # Pairs of an id that counts, which one row at most can have, and a dict from what this row adds to the row.
        self.single = single
        # A dict from what a row with another id adds to such a row.
        self.others = others
        self.least = least


def sums(start, several):
    """The set of all sums of the start and of what rows of several lists add."""
    found = 1 << start
    for ahead in several:
        found = sums_of_rows(found, ahead)
    return found


def sums_of_rows(found, ahead):
    """The set of all sums of one of these integers and of what the rows of one list add."""
    # The sums with so many rows that have an id that counts.
    by_many = [found]
    for number, added in ahead.single:
        more = [0] + [shifted(one, added) for one in by_many]
        by_many = [one | other for one, other in zip(by_many + [0], more)]
    total = 0
    for many, one in enumerate(by_many):
        for step in range(many, ahead.least):
            one = shifted(one, ahead.others)
        total = total | closed(one, ahead.others)
    return total


def shifted(found, added):
    """The sums of one of these integers and one of the added ones."""
    total = 0
    for one in added:
        total = total | raised(found, one)
    return total


def raised(found, many):
    """These integers, each greater by so many; what would be too great is left out."""
    return (found & FULL >> many) << many


def closed(found, added):
    """The sums of one of these integers and any number of the added ones."""
    for one in added:
        # Each step doubles how often it is added; the last one goes over all bits.
        while 0 < one < BITS:
            found = found | raised(found, one)
            one = one * 2
    return found


def least_in(found):
    """The least integer in a set that is not empty."""
    return (found & -found).bit_length() - 1
