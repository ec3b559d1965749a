"""Certificates of squares."""

from surenumbers.basics import are_wholes, is_form, is_from, power_of, square_root, within
from surenumbers.chains import chain_of, factors_of, is_chain
from surenumbers.statements import is_of_sort

SORTS = ("squares",)
MOST_ONCE = 129
MOST_FOURS = 60


def is_sum(roots, number):
    """Whether the squares of the roots come to the number."""
    return sum([root * root for root in roots]) == number


def tells_once(number, thing):
    """Whether this is ("once", p, e, q, rows): a prime of rest 3 by 4 stands an odd number of times in the number."""
    if not is_form(thing, "once", 5):
        return False
    prime, times, other, rows = thing[1:]
    if not is_from(prime, 3) or not within(times, 1, MOST_ONCE) or not is_from(other, 1) or not is_chain(rows):
        return False
    if prime not in [row[0] for row in rows] or prime % 4 != 3 or times % 2 == 0 or other % prime == 0:
        return False
    return power_of(prime, times) * other == number


def tells_seven(number, thing):
    """Whether this is ("seven", e, q): the number is 4 ** e * (8 * q + 7)."""
    if not is_form(thing, "seven", 3) or not within(thing[1], 0, MOST_FOURS) or not is_from(thing[2], 0):
        return False
    return power_of(4, thing[1]) * (8 * thing[2] + 7) == number


def once_of(number):
    """What ("once", ..) tells of a number from 1 on; None where there is nothing to tell."""
    for prime, times in factors_of(number):
        if prime % 4 == 3 and times % 2 == 1:
            return ("once", prime, times, number // power_of(prime, times), chain_of((prime,)))
    return None


def seven_of(number):
    """What ("seven", ..) tells of a number from 0 on; None where there is nothing to tell."""
    fours = 0
    while number > 0 and number % 4 == 0:
        number //= 4
        fours += 1
    return ("seven", fours, number // 8) if number % 8 == 7 else None


def denial_of(many, number):
    """A no of squares; None where it is so. There is none of four."""
    if many == 2 and number > 0:
        return once_of(number)
    return seven_of(number) if many == 3 else None


def two_roots(number):
    """Two numbers whose squares come to the number; None where there are none."""
    low = 0
    high = square_root(number)
    while low <= high:
        both = low * low + high * high
        if both == number:
            return (low, high)
        if both < number:
            low += 1
        else:
            high -= 1
    return None


def roots_of(many, number):
    """So many numbers whose squares come to the number; None where there are none."""
    if many == 2:
        return two_roots(number)
    # Else all that can't be three squares would be gone through in vain.
    if denial_of(many, number) is not None:
        return None
    for first in range(square_root(number) + 1):
        others = roots_of(many - 1, number - first * first)
        if others is not None:
            return (first, *others)
    return None


def squares_show(statement, thing):
    """Whether this is a yes of the statement."""
    if not is_of_sort(statement, SORTS) or not is_form(thing, "roots", 2) or not are_wholes(thing[1], statement[1]):
        return False
    roots = thing[1]
    return roots[0] >= 0 and list(roots) == sorted(roots) and is_sum(roots, statement[2])


def squares_deny(statement, thing):
    """Whether this is a no of the statement."""
    if not is_of_sort(statement, SORTS) or statement[1] == 4:
        return False
    return tells_once(statement[2], thing) if statement[1] == 2 else tells_seven(statement[2], thing)


def squares_made(statement):
    """A yes or a no of the statement."""
    many, number = statement[1:]
    denial = denial_of(many, number)
    if denial is not None:
        return ("no", denial)
    return ("yes", ("roots", tuple(sorted(roots_of(many, number)))))
