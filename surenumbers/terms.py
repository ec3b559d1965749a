"""Terms and their worths."""

from surenumbers.basics import is_whole, within

# A worth stands between this and its negative; 10 ** 120 in two factors, since no exponent is above 64.
WORTH_BOUND = 10 ** 60 * 10 ** 60
MOST_POWER = 60


def is_term(thing):
    """Whether this is a term."""
    if is_whole(thing):
        return True
    if not isinstance(thing, tuple) or len(thing) != 3:
        return False
    word, first, second = thing
    if word == "power":
        return is_term(first) and within(second, 0, MOST_POWER)
    return word in ("sum", "less", "times") and is_term(first) and is_term(second)


def has_bounds(number):
    """Whether a number is not too great for a worth."""
    return -WORTH_BOUND < number < WORTH_BOUND


def bounded(number):
    """The number, or None where it is too great for a worth."""
    return number if has_bounds(number) else None


def worth_of_power(base, times):
    """The worth of a base taken so many times."""
    worth = 1
    for step in range(times):
        worth *= base
        # Nothing that is taken further comes back within the bounds.
        if not has_bounds(worth):
            return None
    return worth


def worth_of(term):
    """What the term comes to; None where that, or a part's worth, is too great."""
    if is_whole(term):
        return bounded(term)
    word, left, right = term
    first = worth_of(left)
    if first is None:
        return None
    if word == "power":
        return worth_of_power(first, right)
    second = worth_of(right)
    if second is None:
        return None
    if word == "sum":
        return bounded(first + second)
    if word == "less":
        return bounded(first - second)
    return bounded(first * second)
