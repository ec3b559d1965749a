"""Open terms: terms with letters in the place of numbers, and the polynomials that they come to.

While it is worked with, a polynomial is a dict: how often each letter is taken, and the factor of that.
"""

from surenumbers.basics import is_whole, within
from surenumbers.terms import MOST_POWER
from surenumbers.things import size_of

MOST_SIZE = 60
MOST_WEIGHT = 6


def weight_of_power(inner, times, letters):
    """What a power weighs; None where it is none, or what it takes is too heavy."""
    weight = weight_of(inner, letters)
    if weight is None or not within(times, 0, MOST_POWER):
        return None
    return weight * times if times > 0 else 1


def weight_of_two(word, first, second, letters):
    """What a sum, a less or a times weighs; None where it is none of these, or one of both is too heavy."""
    if word not in ("sum", "less", "times"):
        return None
    one = weight_of(first, letters)
    other = weight_of(second, letters)
    if one is None or other is None:
        return None
    return one + other if word == "times" else max(one, other)


def weight_of(thing, letters):
    """What an open term weighs, whatever its size; None of what is none, or is, or has a part that is, too heavy."""
    if is_whole(thing) or (isinstance(thing, str) and thing in letters):
        return 1
    if not isinstance(thing, tuple) or len(thing) != 3:
        return None
    word, first, second = thing
    if word == "power":
        weight = weight_of_power(first, second, letters)
    else:
        weight = weight_of_two(word, first, second, letters)
    return weight if weight is not None and weight <= MOST_WEIGHT else None


def is_open(thing, letters):
    """Whether this is an open term of these letters."""
    return size_of(thing) <= MOST_SIZE and weight_of(thing, letters) is not None


def poly_plus(one, other, factor):
    """One polynomial, and another one so many times."""
    both = {powers: one[powers] for powers in one}
    for powers in other:
        both[powers] = both.get(powers, 0) + factor * other[powers]
    return {powers: both[powers] for powers in both if both[powers] != 0}


def poly_times(one, other):
    """The product of two polynomials."""
    product = {}
    for left in one:
        for right in other:
            powers = tuple([first + second for first, second in zip(left, right)])
            product[powers] = product.get(powers, 0) + one[left] * other[right]
    return {powers: product[powers] for powers in product if product[powers] != 0}


def poly_of_number(number, letters):
    """The polynomial of a number."""
    return {tuple([0 for letter in letters]): number} if number != 0 else {}


def poly_power(inner, times, letters):
    """The polynomial of an open term taken so many times."""
    power = poly_of_number(1, letters)
    base = worked_out(inner, letters)
    for step in range(times):
        power = poly_times(power, base)
    return power


def worked_out(term, letters):
    """The polynomial of an open term."""
    if is_whole(term):
        return poly_of_number(term, letters)
    if isinstance(term, str):
        return {tuple([1 if letter == term else 0 for letter in letters]): 1}
    word, first, second = term
    if word == "power":
        return poly_power(first, second, letters)
    one = worked_out(first, letters)
    other = worked_out(second, letters)
    if word == "times":
        return poly_times(one, other)
    return poly_plus(one, other, 1 if word == "sum" else -1)


def poly_of(term, letters):
    """The polynomial of an open term: a rising tuple of (powers, factor), no factor 0."""
    poly = worked_out(term, letters)
    return tuple([(powers, poly[powers]) for powers in sorted(poly)])
