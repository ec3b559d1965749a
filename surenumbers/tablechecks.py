"""Certificates of table."""

from surenumbers.basics import is_form, within
from surenumbers.samples import is_sample, missed, sample_holds
from surenumbers.statements import is_of_sort
from surenumbers.tables import row_of, table_of

SORTS = ("table",)


def tells_sample(word, rows, thing):
    """Whether this is ("sample", places, sums) that lets the rows by and misses nothing."""
    if not is_form(thing, "sample", 3):
        return False
    places, sums = thing[1:]
    size = len(rows)
    if not is_sample(word, size, places, sums) or len(missed(size, places, sums)) > 0:
        return False
    return sample_holds(word, size, places, sums, rows)


def table_shows(statement, thing):
    """Whether this is a yes of the statement."""
    if not is_of_sort(statement, SORTS):
        return False
    word, rows = statement[1:]
    if is_form(thing, "whole", 1):
        return rows == table_of(word, len(rows))
    return tells_sample(word, rows, thing)


def table_denies(statement, thing):
    """Whether this is a no of the statement."""
    if not is_of_sort(statement, SORTS) or not is_form(thing, "wrong", 2):
        return False
    word, rows = statement[1:]
    return within(thing[1], 1, len(rows)) and rows[thing[1] - 1] != row_of(word, thing[1])


def table_made(statement):
    """A yes or a no of the statement."""
    word, rows = statement[1:]
    for number, row in enumerate(rows, start=1):
        if row != row_of(word, number):
            return ("no", ("wrong", number))
    return ("yes", ("whole",))
