"""Whether a thing is a yes, a no, of a statement of any sort."""

from surenumbers.basics import is_form, within
from surenumbers.errors import TooLong
from surenumbers.kinds import MOST
from surenumbers.sorts import functions_of
from surenumbers.statements import is_statement, put_in, span_of
from surenumbers.things import size_of


def plain_holds(statement, thing, is_yes):
    """Whether this is a yes (or else a no) of a statement that has no other one in it."""
    shows, denies, makes = functions_of(statement[0])
    return shows(statement, thing) if is_yes else denies(statement, thing)


def single_holds(statement, thing, is_yes):
    """Whether this is a yes (or else a no) of a statement that is no range, nor "not" of one."""
    if statement[0] == "not":
        return plain_holds(statement[1], thing, not is_yes)
    return plain_holds(statement, thing, is_yes)


def each_holds(low, high, inner, things, is_yes):
    """Whether these are yeses (or else noes) of the inner thing at each number from low to high, in order."""
    if not isinstance(things, tuple) or len(things) != high - low + 1:
        return False
    for number, part in enumerate(things, start=low):
        if not single_holds(put_in(inner, number), part, is_yes):
            return False
    return True


def at_holds(low, high, inner, thing, is_yes):
    """Whether this tells, behind its word, a number from low to high, and a yes (or else a no) at it."""
    return within(thing[1], low, high) and single_holds(put_in(inner, thing[1]), thing[2], is_yes)


def span_holds(statement, thing, is_yes):
    """Whether this is a yes (or else a no) of an "all" or a "some"."""
    low, high, inner = span_of(statement)
    # An "all" is shown by each and denied by one, a "some" the other way about.
    if (statement[0] == "all") == is_yes:
        return is_form(thing, "each", 2) and each_holds(low, high, inner, thing[1], is_yes)
    return is_form(thing, "at", 3) and at_holds(low, high, inner, thing, is_yes)


def least_holds(statement, thing, is_yes):
    """Whether this is a yes (or else a no) of a "least"."""
    low, high, inner = span_of(statement)
    last = put_in(inner, high)
    if is_yes:
        if not is_form(thing, "least", 3) or not each_holds(low, high - 1, inner, thing[1], False):
            return False
        return single_holds(last, thing[2], True)
    if is_form(thing, "fails", 2):
        return single_holds(last, thing[1], False)
    return is_form(thing, "sooner", 3) and at_holds(low, high - 1, inner, thing, True)


def statement_holds(statement, thing, is_yes):
    """Whether this is a yes (or else a no) of a statement of any sort."""
    if statement[0] == "not":
        return statement_holds(statement[1], thing, not is_yes)
    if statement[0] == "least":
        return least_holds(statement, thing, is_yes)
    if statement[0] in ("all", "some"):
        return span_holds(statement, thing, is_yes)
    return plain_holds(statement, thing, is_yes)


def refuse_longer(thing, most):
    """Refuse what is of a greater size than most."""
    size = size_of(thing)
    if size > most:
        raise TooLong(size)


def yes_holds(statement, thing, *, most=MOST):
    """Whether this is a yes of the statement; TooLong where it is of a greater size than most."""
    refuse_longer(thing, most)
    return is_statement(statement) and statement_holds(statement, thing, True)


def no_holds(statement, thing, *, most=MOST):
    """Whether this is a no of the statement; TooLong where it is of a greater size than most."""
    refuse_longer(thing, most)
    return is_statement(statement) and statement_holds(statement, thing, False)
