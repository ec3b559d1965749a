"""What the other modules need of whole numbers and tuples."""

from surenumbers.kinds import GREATEST_LOOKED_AT, MOST_TIMES


def is_whole(thing):
    """Whether this is a whole number: Python counts truths among the ints, the document does not."""
    return isinstance(thing, int) and not isinstance(thing, bool)


def within(thing, low, high):
    """Whether this is a whole number from low to high."""
    return is_whole(thing) and low <= thing <= high


def is_from(thing, low):
    """Whether this is a whole number from low on."""
    return is_whole(thing) and thing >= low


def are_wholes(thing, many):
    """Whether this is a tuple of so many whole numbers."""
    return isinstance(thing, tuple) and len(thing) == many and all([is_whole(part) for part in thing])


def are_triples(thing):
    """Whether this is a tuple of tuples of three whole numbers."""
    return isinstance(thing, tuple) and all([are_wholes(row, 3) for row in thing])


def is_form(thing, word, length):
    """Whether this is a tuple of this length that begins with this word."""
    return isinstance(thing, tuple) and len(thing) == length and thing[0] == word


def word_ahead(thing):
    """The text that a tuple begins with; None where this is no tuple, or begins with none."""
    if isinstance(thing, tuple) and len(thing) > 0 and isinstance(thing[0], str):
        return thing[0]
    return None


def is_pair(thing):
    """Whether this is a tuple of two."""
    return isinstance(thing, tuple) and len(thing) == 2


def greatest_shared(one, other):
    """The greatest divisor that two numbers from 0 on share; 0 where both are 0."""
    while other != 0:
        one, other = other, one % other
    return one


def least_multiple(one, other):
    """The least number from 1 on that two numbers from 1 on both divide."""
    return one // greatest_shared(one, other) * other


def square_root(number):
    """The greatest number whose square is no more than this one, from 0 on."""
    root = number
    while root * root > number:
        root = (root + number // root) // 2
    return root


def is_square(number):
    """Whether a number from 0 on is a square."""
    root = square_root(number)
    return root * root == number


def least_divisor(number):
    """The least divisor from 2 on of a number; 1 of 1."""
    divisor = 2
    while divisor * divisor <= number:
        if number % divisor == 0:
            return divisor
        divisor += 1
    return number


def is_prime(number):
    """Whether a number from 0 on is prime."""
    return number >= 2 and least_divisor(number) == number


def power_of(base, times):
    """A base taken so many times."""
    power = 1
    for step in range(times):
        power *= base
    return power


def rest_of_power(base, times, divisor):
    """The rest by the divisor of a base, from 0 on, taken so many times."""
    rest = 1 % divisor
    square = base % divisor
    while times > 0:
        if times % 2 == 1:
            rest = rest * square % divisor
        square = square * square % divisor
        times //= 2
    return rest


def comes_to_one(base, times, divisor):
    """Whether a base, from 0 on, taken so many times has the rest 1 by the divisor, from 2 on."""
    return rest_of_power(base, times, divisor) == 1


def is_order(base, divisor, times, factors):
    """Whether a base comes to 1 at so many times and, by the factors of that, never before."""
    if not comes_to_one(base, times, divisor):
        return False
    for factor, often in factors:
        if comes_to_one(base, times // factor, divisor):
            return False
    return True


def are_factors(thing):
    """Whether this is a tuple of rows (p, e), p from 2 on, rising, unlike; the p need not be prime."""
    if not isinstance(thing, tuple):
        return False
    last = 1
    for row in thing:
        if not is_pair(row) or not within(row[0], last + 1, GREATEST_LOOKED_AT) or not within(row[1], 1, MOST_TIMES):
            return False
        last = row[0]
    return True


def is_product(rows, number):
    """Whether a number from 1 on is the product of all p ** e of such rows (p, e)."""
    product = 1
    for prime, times in rows:
        for step in range(times):
            product *= prime
            # It only grows, so what is beyond the number stays so: great rows cost no more than small ones.
            if product > number:
                return False
    return product == number
