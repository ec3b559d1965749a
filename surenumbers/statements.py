"""Statements: which things are some, of what they are made, which of their numbers are looked at."""

from surenumbers.basics import are_factors, greatest_shared, is_form, is_from, is_pair, is_square, is_whole, within
from surenumbers.basics import word_ahead
from surenumbers.kinds import GREATEST_LOOKED_AT, WORDS
from surenumbers.terms import is_term, worth_of

GREATEST = 10 ** 12
MOST_FACTORS = 30
MOST_PAIRS = 8
GREATEST_DIVISOR = 1000
GREATEST_COUNTED = 2000
MOST_ROWS = 200
WIDEST = 39


def is_number(thing, low):
    """Whether this is a number from low on, as great as statements have them."""
    return within(thing, low, GREATEST)


def is_looked_number(thing, low):
    """Whether this is a number from low on, as great as those that makers look at may be."""
    return within(thing, low, GREATEST_LOOKED_AT)


def has_worth(thing):
    """Whether this is a term that has a worth."""
    return is_term(thing) and worth_of(thing) is not None


def has_length(thing, low, high):
    """Whether this is a tuple of low to high parts."""
    return isinstance(thing, tuple) and low <= len(thing) <= high


def fits_terms(first, second):
    """Whether these are the parts of same or below."""
    return has_worth(first) and has_worth(second)


def fits_divides(divisor, number):
    """Whether these are the parts of divides."""
    return is_number(divisor, 1) and is_number(number, 0)


def fits_shared(one, other, divisor):
    """Whether these are the parts of shared."""
    return is_number(one, 0) and is_number(other, 0) and is_number(divisor, 0)


def fits_prime(number):
    """Whether these are the parts of prime."""
    return is_looked_number(number, 0)


def fits_factors(number, rows):
    """Whether these are the parts of factors."""
    return is_looked_number(number, 1) and are_factors(rows) and len(rows) <= MOST_FACTORS


def is_rest_pair(thing):
    """Whether this is a rest and what it is a rest by."""
    return is_pair(thing) and within(thing[1], 1, GREATEST_DIVISOR) and within(thing[0], 0, thing[1] - 1)


def fits_clash(pairs):
    """Whether these are the parts of clash; the pairs of joined are alike."""
    return has_length(pairs, 1, MOST_PAIRS) and all([is_rest_pair(pair) for pair in pairs])


def fits_joined(pairs, rest, divisor):
    """Whether these are the parts of joined."""
    return fits_clash(pairs) and is_number(divisor, 1) and within(rest, 0, divisor - 1)


def fits_order(base, divisor, times):
    """Whether these are the parts of order."""
    return is_number(base, 1) and is_number(divisor, 2) and is_looked_number(times, 1)


def is_odd_looked_number(thing):
    """Whether this is an odd number from 3 on, as great as those that makers look at may be."""
    return is_looked_number(thing, 3) and thing % 2 == 1


def fits_root(base, prime):
    """Whether these are the parts of root."""
    return is_odd_looked_number(prime) and within(base, 1, prime - 1)


def fits_square(rest, number):
    """Whether these are the parts of square."""
    if not is_odd_looked_number(number) or not within(rest, 1, number - 1):
        return False
    return greatest_shared(rest, number) == 1


def fits_squares(many, number):
    """Whether these are the parts of squares."""
    return within(many, 2, 4) and is_looked_number(number, 0)


def fits_row(dividend, divisor, parts):
    """Whether these are the parts of row."""
    if not is_number(dividend, 0) or not is_number(divisor, 1) or not isinstance(parts, tuple):
        return False
    return all([within(part, -GREATEST, GREATEST) for part in parts])


def fits_pell(factor, first, second):
    """Whether these are the parts of pell."""
    return is_looked_number(factor, 2) and not is_square(factor) and is_from(first, 2) and is_from(second, 1)


def fits_count(number, many):
    """Whether these are the parts of count."""
    return within(number, 0, GREATEST_COUNTED) and is_number(many, 0)


def fits_table(word, rows):
    """Whether these are the parts of table."""
    return word in WORDS and has_length(rows, 1, MOST_ROWS) and all([is_whole(row) for row in rows])


LENGTHS = {
    "same": 3, "below": 3, "divides": 3, "shared": 4, "prime": 2, "factors": 3, "joined": 4, "clash": 2, "order": 4,
    "root": 3, "square": 3, "squares": 3, "row": 4, "pell": 4, "count": 3, "table": 3,
}

FITS = {
    "same": fits_terms, "below": fits_terms, "divides": fits_divides, "shared": fits_shared, "prime": fits_prime,
    "factors": fits_factors, "joined": fits_joined, "clash": fits_clash, "order": fits_order, "root": fits_root,
    "square": fits_square, "squares": fits_squares, "row": fits_row, "pell": fits_pell, "count": fits_count,
    "table": fits_table,
}

LOOKED_PLACES = {"prime": 1, "factors": 1, "square": 2, "squares": 2, "root": 2, "order": 3, "pell": 1}


def is_plain(thing):
    """Whether this is a statement that has no other one in it."""
    word = word_ahead(thing)
    if word not in FITS or len(thing) != LENGTHS[word]:
        return False
    fits = FITS[word]
    parts = thing[1:]
    return fits(*parts)


def is_single(thing):
    """Whether this is a statement that is no range, nor "not" of one."""
    return is_plain(thing) or (is_form(thing, "not", 2) and is_plain(thing[1]))


def put_in(thing, number):
    """The thing with the number for each label n in it."""
    if isinstance(thing, tuple):
        return tuple([put_in(part, number) for part in thing])
    return number if thing == "n" else thing


def span_of(thing):
    """Of a range its lowest number, its highest one, and its inner thing, whatever that is; of no range None."""
    if is_form(thing, "all", 4) or is_form(thing, "some", 4):
        low, high, inner = thing[1:]
    elif is_form(thing, "least", 4):
        low, inner, high = thing[1:]
    else:
        return None
    if not is_number(low, 0) or not is_number(high, low) or high > low + WIDEST:
        return None
    return low, high, inner


def is_range(thing):
    """Whether this is a statement of the sorts all, some and least."""
    span = span_of(thing)
    if span is None:
        return False
    low, high, inner = span
    for number in range(low, high + 1):
        if not is_single(put_in(inner, number)):
            return False
    return True


def is_statement(thing):
    """Whether this is a statement."""
    return is_single(thing) or is_range(thing) or (is_form(thing, "not", 2) and is_range(thing[1]))


def is_of_sort(thing, words):
    """Whether this is a statement of one of these sorts."""
    return is_statement(thing) and thing[0] in words


def looked_at(statement):
    """The numbers of a statement that makers look at, in order."""
    word = statement[0]
    if word == "not":
        return looked_at(statement[1])
    if word in LOOKED_PLACES:
        return (statement[LOOKED_PLACES[word]],)
    span = span_of(statement)
    if span is None:
        return ()
    low, high, inner = span
    numbers = []
    for number in range(low, high + 1):
        numbers.extend(looked_at(put_in(inner, number)))
    return tuple(numbers)
