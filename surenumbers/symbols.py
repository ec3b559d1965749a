"""Certificates of square."""

from surenumbers.basics import are_triples, is_form, is_from, within
from surenumbers.chains import factors_of
from surenumbers.statements import is_of_sort

SORTS = ("square",)


def row_behind(row):
    """The row that stands behind one whose a is neither 0 nor 1."""
    sign, number, divisor = row
    if number % 2 == 0:
        turns = divisor % 8 in (3, 5)
        return (-sign if turns else sign, number // 2, divisor)
    turns = number % 4 == 3 and divisor % 4 == 3
    return (-sign if turns else sign, divisor % number, number)


def symbol_rows(number, divisor):
    """The rows of a number, from 1 on, by an odd divisor that shares nothing with it: no others are right."""
    rows = [(1, number % divisor, divisor)]
    while rows[-1][1] > 1:
        rows.append(row_behind(rows[-1]))
    return tuple(rows)


def ends_below(rows):
    """Whether the last row has a 1 and the sign -1."""
    return rows[-1][0] == -1 and rows[-1][1] == 1


def tells_symbol(rest, number, divisor, rows):
    """Whether these are the rows by a divisor of the number, and show that the rest is no square."""
    # The number is odd, so each divisor of it is.
    if not within(divisor, 3, number) or number % divisor != 0 or not are_triples(rows):
        return False
    return rows == symbol_rows(rest, divisor) and ends_below(rows)


def made_root(rest, number):
    """The least root of a rest that is a square."""
    root = 0
    while root * root % number != rest:
        root += 1
    return root


def symbol_shows(statement, thing):
    """Whether this is a yes of the statement."""
    if not is_of_sort(statement, SORTS) or not is_form(thing, "root", 2) or not is_from(thing[1], 0):
        return False
    return (thing[1] * thing[1] - statement[1]) % statement[2] == 0


def symbol_denies(statement, thing):
    """Whether this is a no of the statement."""
    if not is_of_sort(statement, SORTS) or not is_form(thing, "symbol", 3):
        return False
    return tells_symbol(statement[1], statement[2], thing[1], thing[2])


def symbol_made(statement):
    """A yes or a no of the statement."""
    rest, number = statement[1:]
    # A rest that is a square by each prime of an odd number, and shares none of them, is one by the number.
    for prime, times in factors_of(number):
        rows = symbol_rows(rest, prime)
        if ends_below(rows):
            return ("no", ("symbol", prime, rows))
    return ("yes", ("root", made_root(rest, number)))
