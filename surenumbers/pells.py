"""Certificates of pell."""

from surenumbers.basics import are_triples, is_form, is_from, square_root, within
from surenumbers.statements import is_of_sort

SORTS = ("pell",)


def row_behind(factor, root, row):
    """The row that stands behind this one."""
    back, divisor, quotient = row
    next_back = quotient * divisor - back
    next_divisor = (factor - next_back * next_back) // divisor
    return (next_back, next_divisor, (root + next_back) // next_divisor)


def is_last(rows):
    """Whether rows may end here: at an even number from 2 on, with the divisor 1."""
    return len(rows) >= 3 and len(rows) % 2 == 1 and rows[-1][1] == 1


def pell_rows(factor):
    """The rows of a factor that is no square, up to the first that may be the last: no others are right."""
    root = square_root(factor)
    rows = [(0, 1, root)]
    while not is_last(rows):
        rows.append(row_behind(factor, root, rows[-1]))
    return tuple(rows)


def fraction_of(rows):
    """The fraction by the quotients of all rows but the last one, in lowest terms."""
    upper, lower = 1, 0
    last_upper, last_lower = 0, 1
    for back, divisor, quotient in rows[:-1]:
        upper, last_upper = quotient * upper + last_upper, upper
        lower, last_lower = quotient * lower + last_lower, lower
    return upper, lower


def is_solution(factor, first, second):
    """Whether the first one's square is 1 more than the second one's, so many times."""
    return first * first - factor * second * second == 1


def tells_sooner(factor, first, thing):
    """Whether this is ("sooner", u, v), a solution whose u is less than the first one."""
    if not is_form(thing, "sooner", 3) or not within(thing[1], 2, first - 1) or not is_from(thing[2], 1):
        return False
    return is_solution(factor, thing[1], thing[2])


def pell_shows(statement, thing):
    """Whether this is a yes of the statement."""
    if not is_of_sort(statement, SORTS) or not is_form(thing, "rows", 2) or not are_triples(thing[1]):
        return False
    factor, first, second = statement[1:]
    return thing[1] == pell_rows(factor) and fraction_of(thing[1]) == (first, second)


def pell_denies(statement, thing):
    """Whether this is a no of the statement."""
    if not is_of_sort(statement, SORTS):
        return False
    factor, first, second = statement[1:]
    if is_form(thing, "other", 1):
        return not is_solution(factor, first, second)
    return tells_sooner(factor, first, thing)


def pell_made(statement):
    """A yes or a no of the statement."""
    factor, first, second = statement[1:]
    if not is_solution(factor, first, second):
        return ("no", ("other",))
    rows = pell_rows(factor)
    upper, lower = fraction_of(rows)
    if upper == first:
        return ("yes", ("rows", rows))
    return ("no", ("sooner", upper, lower))
