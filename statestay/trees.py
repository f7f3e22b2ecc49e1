"""Items and the lists of items in them."""

# The places of the lists in an item. Their order is the order of the numbers in a path.
LISTS = {"part": (3,), "group": (2,), "if": (2, 3), "for": (2,), "piece": (2,), "slot": ()}


def in_order(items, start, deep=1):
    """Yield the depth, the path and the item for each item, before the items in its lists."""
    for index, item in enumerate(items):
        path = start + (index,)
        # Only what asks for the next item looks into this one, so a wrong item can be refused first.
        yield (deep, path, item)
        for number, place in enumerate(LISTS[item[0]]):
            yield from in_order(item[place], path + (number,), deep + 1)


def lists_of(item):
    """The lists of items in an item."""
    return [item[place] for place in LISTS[item[0]]]


def with_lists(item, several):
    """The item with these lists in the places of its own."""
    parts = list(item)
    for place, items in zip(LISTS[item[0]], several):
        parts[place] = items
    return tuple(parts)


def spread_out(items, pieces, filling):
    """The items with each piece in its place, and with the filling in the place of the slot."""
    whole = []
    for item in items:
        if item[0] == "slot":
            whole.extend(filling)
        elif item[0] == "piece":
            inside = spread_out(item[2], pieces, filling)
            whole.extend(spread_out(pieces[item[1]], pieces, inside))
        else:
            whole.append(with_lists(item, [spread_out(inner, pieces, filling) for inner in lists_of(item)]))
    return whole


def spliced(items, path, many, others):
    """The items with so many left out from the path on, and others in their place."""
    index = path[0]
    if len(path) == 1:
        return items[:index] + others + items[index + many:]
    several = lists_of(items[index])
    several[path[1]] = spliced(several[path[1]], path[2:], many, others)
    return items[:index] + [with_lists(items[index], several)] + items[index + 1:]
