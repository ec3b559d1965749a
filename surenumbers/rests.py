"""Certificates of joined and clash."""

from surenumbers.basics import are_wholes, greatest_shared, is_form, is_from, least_multiple, within
from surenumbers.dividing import shared_with_factors
from surenumbers.statements import is_of_sort

SORTS = ("joined", "clash")


def has_rests(number, pairs):
    """Whether a number has all the rests."""
    return all([number % divisor == rest for rest, divisor in pairs])


def all_divide(pairs, number):
    """Whether each divisor of the pairs divides the number."""
    return all([number % divisor == 0 for rest, divisor in pairs])


def weighed_sum(factors, pairs, whole):
    """What each factor times the whole by its pair's divisor comes to, all together."""
    return sum([factor * (whole // pair[1]) for factor, pair in zip(factors, pairs)])


def is_lacking(pair, rest, whole):
    """Whether the numbers of this rest by the whole don't all have the rest of the pair."""
    return rest % pair[1] != pair[0] or whole % pair[1] != 0


def shows_joined(pairs, rest, whole, thing):
    """Whether this is ("sums", xs) that shows that the whole has the rests and is the least such."""
    if not is_form(thing, "sums", 2) or not are_wholes(thing[1], len(pairs)):
        return False
    return has_rests(rest, pairs) and all_divide(pairs, whole) and weighed_sum(thing[1], pairs, whole) == 1


def denies_joined(pairs, rest, whole, thing):
    """Whether this tells a pair that lacks something, or a lesser number that all divisors divide."""
    if is_form(thing, "lacks", 2):
        return within(thing[1], 0, len(pairs) - 1) and is_lacking(pairs[thing[1]], rest, whole)
    return is_form(thing, "less", 2) and within(thing[1], 1, whole - 1) and all_divide(pairs, thing[1])


def least_whole(pairs):
    """The least number from 1 on that each divisor of the pairs divides."""
    whole = 1
    for rest, divisor in pairs:
        whole = least_multiple(whole, divisor)
    return whole


def sums_to_one(pairs, whole):
    """Factors whose weighed sum is 1, of a whole that is the least one."""
    shared = 0
    factors = []
    for rest, divisor in pairs:
        shared, old, new = shared_with_factors(shared, whole // divisor)
        factors = [factor * old for factor in factors] + [new]
    factors = [factor % pair[1] for factor, pair in zip(factors, pairs)]
    # The rests keep the numbers small, and are off by so many wholes, which the first factor makes up for.
    factors[0] -= (weighed_sum(factors, pairs, whole) - 1) // whole * pairs[0][1]
    return tuple(factors)


def made_joined(pairs, rest, whole):
    """What is told of joined."""
    for place, pair in enumerate(pairs):
        if is_lacking(pair, rest, whole):
            return ("no", ("lacks", place))
    least = least_whole(pairs)
    if least < whole:
        return ("no", ("less", least))
    return ("yes", ("sums", sums_to_one(pairs, whole)))


def are_at_odds(one, other, divisor):
    """Whether two pairs are at odds by a divisor from 1 on."""
    if one[1] % divisor != 0 or other[1] % divisor != 0:
        return False
    return (one[0] - other[0]) % divisor != 0


def shows_clash(pairs, thing):
    """Whether this is ("two", i, j, d) that tells two pairs at odds."""
    if not is_form(thing, "two", 4):
        return False
    first, second, divisor = thing[1:]
    if not within(second, 0, len(pairs) - 1) or not within(first, 0, second - 1) or not is_from(divisor, 1):
        return False
    return are_at_odds(pairs[first], pairs[second], divisor)


def denies_clash(pairs, thing):
    """Whether this is ("one", s) that has all the rests."""
    return is_form(thing, "one", 2) and is_from(thing[1], 0) and has_rests(thing[1], pairs)


def joint_number(pairs):
    """A number that has all the rests, of pairs of which no two are at odds."""
    number = 0
    step = 1
    for rest, divisor in pairs:
        while number % divisor != rest:
            number += step
        step = least_multiple(step, divisor)
    return number


def made_clash(pairs):
    """What is told of clash: where no two pairs are at odds, all have a number together."""
    for second, other in enumerate(pairs):
        for first in range(second):
            divisor = greatest_shared(pairs[first][1], other[1])
            if are_at_odds(pairs[first], other, divisor):
                return ("yes", ("two", first, second, divisor))
    return ("no", ("one", joint_number(pairs)))


def rest_shows(statement, thing):
    """Whether this is a yes of the statement."""
    if not is_of_sort(statement, SORTS):
        return False
    if statement[0] == "joined":
        return shows_joined(statement[1], statement[2], statement[3], thing)
    return shows_clash(statement[1], thing)


def rest_denies(statement, thing):
    """Whether this is a no of the statement."""
    if not is_of_sort(statement, SORTS):
        return False
    if statement[0] == "joined":
        return denies_joined(statement[1], statement[2], statement[3], thing)
    return denies_clash(statement[1], thing)


def rest_made(statement):
    """A yes or a no of the statement."""
    if statement[0] == "joined":
        return made_joined(statement[1], statement[2], statement[3])
    return made_clash(statement[1])
