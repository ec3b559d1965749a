"""Chains: rows that show primes, each by those ahead of it."""

from surenumbers.basics import are_factors, is_order, is_product, least_divisor, within
from surenumbers.kinds import GREATEST_LOOKED_AT


def are_known_factors(thing, number, known):
    """Whether these are rows (q, e) of known primes whose product is the number."""
    return are_factors(thing) and all([row[0] in known for row in thing]) and is_product(thing, number)


def is_chain_row(thing, last, known):
    """Whether this may stand behind rows of which the last one has this p and all show these primes."""
    if not isinstance(thing, tuple) or len(thing) != 3:
        return False
    prime, base, factors = thing
    if not within(prime, last + 1, GREATEST_LOOKED_AT) or prime % 2 == 0 or not within(base, 2, prime - 1):
        return False
    return are_known_factors(factors, prime - 1, known) and is_order(base, prime, prime - 1, factors)


def is_chain(thing):
    """Whether this is a chain."""
    if not isinstance(thing, tuple):
        return False
    last = 2
    known = {2: True}
    for row in thing:
        if not is_chain_row(row, last, known):
            return False
        last = row[0]
        known[last] = True
    return True


def factors_of(number):
    """The rows (p, e) whose product of all p ** e is the number, from 1 on."""
    rows = []
    while number > 1:
        prime = least_divisor(number)
        times = 0
        while number % prime == 0:
            number //= prime
            times += 1
        rows.append((prime, times))
    return tuple(rows)


def chain_row(prime):
    """The row of an odd prime."""
    factors = factors_of(prime - 1)
    base = 2
    while not is_order(base, prime, prime - 1, factors):
        base += 1
    return (prime, base, factors)


def chain_of(primes):
    """A chain that has a row of each odd one of these primes, and of just those that these need."""
    rows = {}
    waiting = list(primes)
    while len(waiting) > 0:
        prime = waiting.pop()
        if prime != 2 and prime not in rows:
            rows[prime] = chain_row(prime)
            waiting.extend([factor for factor, times in rows[prime][2]])
    return tuple([rows[prime] for prime in sorted(rows)])
