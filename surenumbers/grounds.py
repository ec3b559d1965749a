"""Entries: statements with their grounds, claims with their workings, and what each of them needs."""

from surenumbers.basics import are_wholes, is_form, is_whole, within, word_ahead
from surenumbers.claims import is_claim, put_claim, working_holds
from surenumbers.judging import statement_holds
from surenumbers.statements import is_statement, put_in, span_of
from surenumbers.things import is_thing


def fits_judged(thing):
    """Whether these are the parts of judged."""
    return is_thing(thing)


def fits_claim(claim, worths):
    """Whether these are the parts of a ground by a claim."""
    return is_claim(claim) and isinstance(worths, tuple) and are_wholes(worths, len(worths))


def fits_statement(statement, number):
    """Whether these are the parts of at or row."""
    return is_statement(statement) and is_whole(number)


def fits_number(number):
    """Whether these are the parts of found or spread."""
    return is_whole(number)


def fits_nothing():
    """Whether these are the parts of each, which has none."""
    return True


def fits_bounds(low, high):
    """Whether these are the parts of narrow."""
    return is_whole(low) and is_whole(high)


LENGTHS = {"judged": 2, "claim": 3, "at": 3, "found": 2, "each": 1, "spread": 2, "narrow": 3, "row": 3}

FITS = {
    "judged": fits_judged, "claim": fits_claim, "at": fits_statement, "found": fits_number, "each": fits_nothing,
    "spread": fits_number, "narrow": fits_bounds, "row": fits_statement,
}


def is_ground(thing):
    """Whether this is a ground of some statement."""
    word = word_ahead(thing)
    if word not in FITS or len(thing) != LENGTHS[word]:
        return False
    fits = FITS[word]
    parts = thing[1:]
    return fits(*parts)


def is_entry(thing):
    """Whether this is an entry."""
    if is_form(thing, "claim", 3):
        return is_claim(thing[1]) and is_thing(thing[2])
    return is_form(thing, "fact", 3) and is_statement(thing[1]) and is_ground(thing[2])


def needs_of_judged(statement, thing):
    """Nothing, where the thing is a yes of the statement."""
    return () if statement_holds(statement, thing, True) else None


def needs_of_claim(statement, claim, worths):
    """The claim and its givens, put, where the statement is its goal, put."""
    if len(worths) != len(claim[0]):
        return None
    givens, goal = put_claim(claim, worths)
    if statement != goal or not all([is_statement(given) for given in givens]):
        return None
    return (claim, *givens)


def needs_of_at(statement, whole, number):
    """An "all", where the statement is what it says at the number."""
    if whole[0] != "all":
        return None
    low, high, inner = span_of(whole)
    return (whole,) if within(number, low, high) and statement == put_in(inner, number) else None


def needs_of_found(statement, number):
    """What a "some" says at the number."""
    if statement[0] != "some":
        return None
    low, high, inner = span_of(statement)
    return (put_in(inner, number),) if within(number, low, high) else None


def needs_of_each(statement):
    """What an "all" says at each number."""
    if statement[0] != "all":
        return None
    low, high, inner = span_of(statement)
    return tuple([put_in(inner, number) for number in range(low, high + 1)])


def needs_of_spread(statement, number):
    """The "all" up to the number, and the one behind it."""
    if statement[0] != "all":
        return None
    low, high, inner = span_of(statement)
    if not within(number, low, high - 1):
        return None
    return (("all", low, number, inner), ("all", number + 1, high, inner))


def needs_of_narrow(statement, low, high):
    """The "all" of wider bounds."""
    if statement[0] != "all" or low > statement[1] or high < statement[2]:
        return None
    wider = ("all", low, high, statement[3])
    return (wider,) if is_statement(wider) else None


def sayings_of_row(word, row, number):
    """The statements that the row of a number in a table tells."""
    if word == "total":
        return ()
    is_prime_row = row == 2 if word == "many" else row == number and number != 1
    prime = ("prime", number)
    saying = prime if is_prime_row else ("not", prime)
    return (saying, ("divides", row, number)) if word == "least" and row >= 1 else (saying,)


def needs_of_row(statement, table, number):
    """The table, where the statement is told by its row of the number."""
    if table[0] != "table":
        return None
    word, rows = table[1:]
    if not within(number, 1, len(rows)) or statement not in sayings_of_row(word, rows[number - 1], number):
        return None
    return (table,)


NEEDS = {
    "judged": needs_of_judged, "claim": needs_of_claim, "at": needs_of_at, "found": needs_of_found,
    "each": needs_of_each, "spread": needs_of_spread, "narrow": needs_of_narrow, "row": needs_of_row,
}


def needs(entry):
    """The statements and claims that an entry needs, in order; None where it can't be shown whatever holds."""
    word, what, ground = entry
    if word == "claim":
        return () if working_holds(what, ground) else None
    find_needs = NEEDS[ground[0]]
    parts = ground[1:]
    return find_needs(what, *parts)
