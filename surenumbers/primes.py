"""Certificates of prime and factors."""

from surenumbers.basics import is_form, is_prime, is_product, least_divisor, rest_of_power, within
from surenumbers.chains import chain_of, is_chain
from surenumbers.statements import is_of_sort

SORTS = ("prime", "factors")


def is_chain_form(thing):
    """Whether this is ("chain", rows) with rows that are a chain."""
    return is_form(thing, "chain", 2) and is_chain(thing[1])


def shows_prime(number, thing):
    """Whether this is a chain that ends with the number."""
    if not is_chain_form(thing):
        return False
    rows = thing[1]
    if len(rows) == 0:
        return number == 2
    return rows[-1][0] == number


def denies_prime(number, thing):
    """Whether this shows that the number is not prime."""
    if is_form(thing, "few", 1):
        return number < 2
    if is_form(thing, "divisor", 2):
        return within(thing[1], 2, number - 1) and number % thing[1] == 0
    if is_form(thing, "witness", 2):
        return within(thing[1], 2, number - 1) and rest_of_power(thing[1], number - 1, number) != 1
    return False


def made_prime(number):
    """What is told of prime."""
    if number < 2:
        return ("no", ("few",))
    divisor = least_divisor(number)
    if divisor < number:
        return ("no", ("divisor", divisor))
    return ("yes", ("chain", chain_of((number,))))


def shows_factors(number, factors, thing):
    """Whether this is a chain that has all primes of the rows, whose product is the number."""
    if not is_chain_form(thing):
        return False
    known = [2] + [row[0] for row in thing[1]]
    return all([prime in known for prime, times in factors]) and is_product(factors, number)


def denies_factors(number, factors, thing):
    """Whether this shows that the product is another one, or that one of the rows has no prime."""
    if is_form(thing, "product", 1):
        return not is_product(factors, number)
    if not is_form(thing, "part", 3) or not within(thing[1], 0, len(factors) - 1):
        return False
    return denies_prime(factors[thing[1]][0], thing[2])


def made_factors(number, factors):
    """What is told of factors."""
    if not is_product(factors, number):
        return ("no", ("product",))
    primes = tuple([prime for prime, times in factors])
    for place, prime in enumerate(primes):
        if not is_prime(prime):
            return ("no", ("part", place, made_prime(prime)[1]))
    return ("yes", ("chain", chain_of(primes)))


def prime_shows(statement, thing):
    """Whether this is a yes of the statement."""
    if not is_of_sort(statement, SORTS):
        return False
    if statement[0] == "prime":
        return shows_prime(statement[1], thing)
    return shows_factors(statement[1], statement[2], thing)


def prime_denies(statement, thing):
    """Whether this is a no of the statement."""
    if not is_of_sort(statement, SORTS):
        return False
    if statement[0] == "prime":
        return denies_prime(statement[1], thing)
    return denies_factors(statement[1], statement[2], thing)


def prime_made(statement):
    """A yes or a no of the statement."""
    if statement[0] == "prime":
        return made_prime(statement[1])
    return made_factors(statement[1], statement[2])
