"""Labels, and the longest sequence of them that can stay where it is."""


def mark_of(label):
    """A string for a label; two labels have the same string exactly if they are equal."""
    # A label may be nested deeper than the key of a dict may be, so a string stands for it. The length in front of
    # a string tells where it ends, and True is written as 1, because the two are equal.
    if isinstance(label, int):
        return f"{label:x}"
    if isinstance(label, str):
        return f"'{len(label)}:{label}"
    if isinstance(label, tuple):
        return "(" + ",".join([mark_of(one) for one in label]) + ")"
    if isinstance(label, list):
        return "[" + ",".join([mark_of(one) for one in label]) + "]"
    if isinstance(label, dict):
        return "{" + ",".join(sorted([mark_of(pair) for pair in label.items()])) + "}"
    return "None"


def longest_rising(ranks):
    """A longest sequence of these different integers that rises, the last one first."""
    # For each length so far: the index of the smallest rank that ends a rising sequence of this length.
    ends = []
    earlier = []
    for at, rank in enumerate(ranks):
        length = many_below(ranks, ends, rank)
        earlier.append(ends[length - 1] if length > 0 else None)
        ends[length:length + 1] = [at]
    rising = []
    at = ends[-1] if ends else None
    while at is not None:
        rising.append(ranks[at])
        at = earlier[at]
    return rising


def many_below(ranks, ends, rank):
    """How many of the ends have a rank below this one; the ranks of the ends rise."""
    low = 0
    high = len(ends)
    while low < high:
        middle = (low + high) // 2
        if ranks[ends[middle]] < rank:
            low = middle + 1
        else:
            high = middle
    return low
