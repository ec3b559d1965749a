"""Certificates of same, below, row and count: whoever reads them walks the whole way."""

from surenumbers.basics import is_prime
from surenumbers.statements import is_of_sort
from surenumbers.terms import worth_of

SORTS = ("same", "below", "row", "count")
WALK = ("walk",)


def is_same(first, second):
    """Whether two terms have the same worth."""
    return worth_of(first) == worth_of(second)


def is_below(first, second):
    """Whether the first term's worth is less than the second one's."""
    return worth_of(first) < worth_of(second)


def quotients(dividend, divisor):
    """The quotients of continued divisions, one behind another."""
    parts = []
    while divisor != 0:
        parts.append(dividend // divisor)
        dividend, divisor = divisor, dividend % divisor
    return tuple(parts)


def is_row(dividend, divisor, parts):
    """Whether these are the quotients."""
    return quotients(dividend, divisor) == parts


def is_count(number, many):
    """Whether there are so many primes up to the number."""
    return len([up for up in range(number + 1) if is_prime(up)]) == many


WALKS = {"same": is_same, "below": is_below, "row": is_row, "count": is_count}


def is_so(statement):
    """Whether a statement of these sorts is so."""
    walk = WALKS[statement[0]]
    parts = statement[1:]
    return walk(*parts)


def is_walk(statement, thing):
    """Whether this is the certificate of these sorts, and a statement of theirs is there."""
    return thing == WALK and is_of_sort(statement, SORTS)


def walk_shows(statement, thing):
    """Whether this is a yes of the statement."""
    return is_walk(statement, thing) and is_so(statement)


def walk_denies(statement, thing):
    """Whether this is a no of the statement."""
    return is_walk(statement, thing) and not is_so(statement)


def walk_made(statement):
    """A yes or a no of the statement."""
    return ("yes" if is_so(statement) else "no", WALK)
