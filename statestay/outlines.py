"""The lines of a template, put together to items and pieces."""

from statestay.errors import InvalidText

MOST_LEVEL = 8


class Outline:
    """The items and the pieces of the lines so far."""

    def __init__(self):
        """There is no line yet."""
        self.top = []
        self.defined = {}
        # The lists in which the next line can stand, by its level.
        self.open_lists = [self.top]
        # For each if whose else is still to come, in the order of the levels: the level, and the list behind the else.
        self.waiting = []

    def take(self, level, told):
        """Put the next line to the items, or raise InvalidText(0) if it does not fit there."""
        if level > MOST_LEVEL or level >= len(self.open_lists) or not self.goes_on(level, told):
            raise InvalidText(0)
        self.open_lists = self.open_lists[:level + 1]
        if told[0] == "else":
            self.open_lists.append(self.waiting.pop()[1])
        elif told[0] == "define":
            self.defined[told[1]] = []
            self.open_lists.append(self.defined[told[1]])
        elif told[0] == "slot":
            self.open_lists[level].append(told)
        else:
            self.take_item(level, told)

    def take_item(self, level, told):
        """Put an item to the others, and let the next line stand in its first list."""
        inside = []
        behind = []
        if told[0] == "if":
            self.waiting.append((level, behind))
        self.open_lists[level].append(told + ((inside, behind) if told[0] == "if" else (inside,)))
        self.open_lists.append(inside)

    def goes_on(self, level, told):
        """Whether each if so far has its else, if it should by now, and each define stands where it should."""
        if told[0] == "else":
            return len(self.waiting) > 0 and self.waiting[-1][0] == level
        if self.waiting and self.waiting[-1][0] >= level:
            return False
        return told[0] != "define" or level == 0 and not self.top and told[1] not in self.defined


def put_together(lines):
    """The items and the pieces of pairs of a level and of what a line tells."""
    outline = Outline()
    for level, told in lines:
        outline.take(level, told)
    if outline.waiting:
        raise InvalidText(0)
    return outline.top, outline.defined
