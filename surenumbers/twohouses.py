"""Two houses: what holds in just one of them, and both in one."""

from surenumbers.houses import House
from surenumbers.kinds import MOST
from surenumbers.things import rising


def held_in(house):
    """The statements and the claims that hold in a house."""
    return house.facts() + house.claims()


def differing(one, other):
    """What holds in just one of two houses, rising."""
    in_one, in_other = held_in(one), held_in(other)
    only_one = [what for what in in_one if what not in in_other]
    only_other = [what for what in in_other if what not in in_one]
    return rising((*only_one, *only_other))


def both(one, other, *, most=MOST):
    """A house of the first one's entries, then the other one's new ones."""
    return House(one.entries() + other.entries(), most=most)
