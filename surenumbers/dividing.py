"""Certificates of divides and shared."""

from surenumbers.basics import is_form, is_whole, within
from surenumbers.statements import is_of_sort

SORTS = ("divides", "shared")


def shows_divides(divisor, number, thing):
    """Whether this is ("times", q) that tells how often the divisor goes into the number."""
    return is_form(thing, "times", 2) and is_whole(thing[1]) and divisor * thing[1] == number


def denies_divides(divisor, number, thing):
    """Whether this is ("rest", q, r) that tells a rest."""
    if not is_form(thing, "rest", 3) or not is_whole(thing[1]) or not within(thing[2], 1, divisor - 1):
        return False
    return divisor * thing[1] + thing[2] == number


def made_divides(divisor, number):
    """What is told of divides."""
    quotient, rest = divmod(number, divisor)
    if rest == 0:
        return ("yes", ("times", quotient))
    return ("no", ("rest", quotient, rest))


def shows_shared(one, other, divisor, thing):
    """Whether this is ("parts", u, v, x, y) that shows the greatest shared divisor."""
    if not is_form(thing, "parts", 5):
        return False
    parts = thing[1:]
    if not all([is_whole(part) for part in parts]):
        return False
    up, down, left, right = parts
    return one == divisor * up and other == divisor * down and one * left + other * right == divisor


def denies_shared(one, other, divisor, thing):
    """Whether this is ("other", h, thing) that shows another greatest shared divisor."""
    if not is_form(thing, "other", 3) or not is_whole(thing[1]) or thing[1] < 0 or thing[1] == divisor:
        return False
    return shows_shared(one, other, thing[1], thing[2])


def shared_with_factors(one, other):
    """The greatest shared divisor, and how often each of both goes into a sum that comes to it."""
    left, right = 1, 0
    next_left, next_right = 0, 1
    while other != 0:
        quotient = one // other
        one, other = other, one - quotient * other
        left, next_left = next_left, left - quotient * next_left
        right, next_right = next_right, right - quotient * next_right
    return one, left, right


def made_shared(one, other, divisor):
    """What is told of shared."""
    greatest, left, right = shared_with_factors(one, other)
    # Where both are 0 nothing can be divided, and 0 goes into 0 however often.
    up = one // greatest if greatest != 0 else 0
    down = other // greatest if greatest != 0 else 0
    shown = ("parts", up, down, left, right)
    if greatest == divisor:
        return ("yes", shown)
    return ("no", ("other", greatest, shown))


def dividing_shows(statement, thing):
    """Whether this is a yes of the statement."""
    if not is_of_sort(statement, SORTS):
        return False
    if statement[0] == "divides":
        return shows_divides(statement[1], statement[2], thing)
    return shows_shared(statement[1], statement[2], statement[3], thing)


def dividing_denies(statement, thing):
    """Whether this is a no of the statement."""
    if not is_of_sort(statement, SORTS):
        return False
    if statement[0] == "divides":
        return denies_divides(statement[1], statement[2], thing)
    return denies_shared(statement[1], statement[2], statement[3], thing)


def dividing_made(statement):
    """A yes or a no of the statement."""
    if statement[0] == "divides":
        return made_divides(statement[1], statement[2])
    return made_shared(statement[1], statement[2], statement[3])
