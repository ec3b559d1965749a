"""Samples: some rows of a table and some of its sums, and what gets by them."""

from surenumbers.basics import are_wholes, least_multiple, within
from surenumbers.tables import due_sum, row_of, sum_of, table_of

MOST_SUMS = 8


def are_places(thing, size):
    """Whether this is a rising tuple of unlike numbers from 1 to the size."""
    if not isinstance(thing, tuple):
        return False
    last = 0
    for place in thing:
        if not within(place, last + 1, size):
            return False
        last = place
    return True


def is_sample(word, size, places, sums):
    """Whether these are places and sums of a sample of this word and size."""
    return are_places(places, size) and within(sums, 0, 0 if word == "least" else MOST_SUMS)


def sample_holds(word, size, places, sums, thing):
    """Whether the sample lets this by."""
    if not are_wholes(thing, size):
        return False
    for place in places:
        if thing[place - 1] != row_of(word, place):
            return False
    for power in range(sums):
        if sum_of(thing, power) != due_sum(word, size, power):
            return False
    return True


def missed(size, places, sums):
    """The places at which something wrong may get by."""
    others = [place for place in range(1, size + 1) if place not in places]
    return tuple(others) if len(others) > sums else ()


def product_of_gaps(place, places):
    """The product of how far a place is from each other one, either way."""
    product = 1
    for other in places:
        if other != place:
            product *= place - other
    return product


def shifts_of(places):
    """A number for each place, none of them 0, that no sum sees whose power is below the number of places less one."""
    # These are the weights of a divided difference, made whole: it is 0 of all powers that low.
    gaps = [product_of_gaps(place, places) for place in places]
    common = 1
    for gap in gaps:
        common = least_multiple(common, abs(gap))
    return [common // gap for gap in gaps]


def forged(word, size, places, sums):
    """A wrong table that the sample lets by, as little wrong as such can be; None where there is none."""
    chosen = missed(size, places, sums)[:sums + 1]
    if len(chosen) == 0:
        return None
    rows = list(table_of(word, size))
    for place, shift in zip(chosen, shifts_of(chosen)):
        rows[place - 1] += shift
    return tuple(rows)
