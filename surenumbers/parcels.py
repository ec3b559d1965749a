"""Parcels: what holds in a house, led to another one with all that it needs."""

from surenumbers.errors import NoParcel, NotHeld
from surenumbers.grounds import is_entry
from surenumbers.papers import Looked, are_founded, paper_of


def led(house, what):
    """A parcel: a paper that what holds; NotHeld where it doesn't."""
    if not house.holds(what):
        raise NotHeld(what)
    return paper_of(house.rows(), what)


def is_parcel(thing):
    """Whether this is a parcel."""
    if not isinstance(thing, tuple) or not all([is_entry(entry) for entry in thing]):
        return False
    return are_founded([Looked(entry) for entry in thing])


def fetched(house, parcel):
    """Put all of a parcel together: how many of its entries were new."""
    if not is_parcel(parcel):
        raise NoParcel("this is not a parcel")
    told = house.together(tuple([("put", entry) for entry in parcel]))
    return len([is_new for is_new in told if is_new])
