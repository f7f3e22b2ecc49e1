"""Drawings kept for many comparisons."""

from statestay.drawing import draw, part_owners
from statestay.matching import addresses


class Seen:
    """The addresses of the parts of a drawing by their owners, and the owners by the addresses."""

    def __init__(self, template, rule, data):
        """Draw the data."""
        nodes = draw(template, data)
        table = addresses(rule, nodes)
        self.by_owner = {owner: table[owner] for owner in part_owners(nodes)}
        self.by_address = {address: owner for owner, address in self.by_owner.items()}


def differ(old, new):
    """Whether there is a fault between two drawings: a part with two addresses or two parts with one address."""
    if any([new.by_owner.get(owner, address) != address for owner, address in old.by_owner.items()]):
        return True
    return any([new.by_address.get(address, owner) != owner for address, owner in old.by_address.items()])
