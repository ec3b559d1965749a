"""Certificates of order and root."""

from surenumbers.basics import comes_to_one, is_form, is_order, within
from surenumbers.chains import chain_of, factors_of
from surenumbers.primes import prime_denies, prime_made, prime_shows
from surenumbers.statements import is_of_sort

SORTS = ("order", "root")


def tells_sooner(base, divisor, most, thing):
    """Whether this is ("sooner", j), j no more than told, at which the base comes to 1."""
    return is_form(thing, "sooner", 2) and within(thing[1], 1, most) and comes_to_one(base, thing[1], divisor)


def shows_order(base, divisor, times, thing):
    """Whether this is ("by", factors, rows) that shows the least number of times."""
    if not is_form(thing, "by", 3):
        return False
    factors, rows = thing[1:]
    return prime_shows(("factors", times, factors), ("chain", rows)) and is_order(base, divisor, times, factors)


def denies_order(base, divisor, times, thing):
    """Whether this shows that the base doesn't come to 1, or does so sooner."""
    if is_form(thing, "power", 1):
        return not comes_to_one(base, times, divisor)
    return tells_sooner(base, divisor, times - 1, thing)


def sooner_of(base, divisor, times):
    """A lesser number of times at which the base comes to 1, of one at which it does; None where there is none."""
    for prime, often in factors_of(times):
        if comes_to_one(base, times // prime, divisor):
            return times // prime
    return None


def made_order(base, divisor, times):
    """What is told of order."""
    if not comes_to_one(base, times, divisor):
        return ("no", ("power",))
    sooner = sooner_of(base, divisor, times)
    if sooner is not None:
        return ("no", ("sooner", sooner))
    factors = factors_of(times)
    rows = chain_of(tuple([prime for prime, often in factors]))
    return ("yes", ("by", factors, rows))


def shows_root(base, number, thing):
    """Whether this is a chain that ends with the number and this base."""
    return prime_shows(("prime", number), thing) and thing[1][-1][1] == base


def denies_root(base, number, thing):
    """Whether this shows that the number is no prime, or that the base comes to 1 too soon."""
    if is_form(thing, "apart", 2):
        return prime_denies(("prime", number), thing[1])
    return tells_sooner(base, number, number - 2, thing)


def made_root(base, number):
    """What is told of root."""
    side, thing = prime_made(("prime", number))
    if side == "no":
        return ("no", ("apart", thing))
    sooner = sooner_of(base, number, number - 1)
    if sooner is not None:
        return ("no", ("sooner", sooner))
    rows = thing[1]
    return ("yes", ("chain", rows[:-1] + ((number, base, rows[-1][2]),)))


def order_shows(statement, thing):
    """Whether this is a yes of the statement."""
    if not is_of_sort(statement, SORTS):
        return False
    if statement[0] == "order":
        return shows_order(statement[1], statement[2], statement[3], thing)
    return shows_root(statement[1], statement[2], thing)


def order_denies(statement, thing):
    """Whether this is a no of the statement."""
    if not is_of_sort(statement, SORTS):
        return False
    if statement[0] == "order":
        return denies_order(statement[1], statement[2], statement[3], thing)
    return denies_root(statement[1], statement[2], thing)


def order_made(statement):
    """A yes or a no of the statement."""
    if statement[0] == "order":
        return made_order(statement[1], statement[2], statement[3])
    return made_root(statement[1], statement[2])
