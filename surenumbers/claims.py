"""Claims: what is the same at all worths of some letters, wherever their givens are; and their workings."""

from surenumbers.basics import is_pair
from surenumbers.polys import is_open, poly_plus, poly_times, worked_out
from surenumbers.things import is_label

MOST_LETTERS = 5
MOST_GIVENS = 3


def are_letters(thing):
    """Whether this is a rising tuple of none to five unlike labels."""
    if not isinstance(thing, tuple) or len(thing) > MOST_LETTERS or not all([is_label(part) for part in thing]):
        return False
    return all([one < other for one, other in zip(thing, thing[1:])])


def is_open_pair(thing, letters):
    """Whether this is a pair of open terms of these letters."""
    return is_pair(thing) and is_open(thing[0], letters) and is_open(thing[1], letters)


def are_givens(thing, letters):
    """Whether this is a tuple of at most three pairs of open terms of these letters."""
    if not isinstance(thing, tuple) or len(thing) > MOST_GIVENS:
        return False
    return all([is_open_pair(pair, letters) for pair in thing])


def is_claim(thing):
    """Whether this is a claim."""
    if not isinstance(thing, tuple) or len(thing) != 3 or not are_letters(thing[0]):
        return False
    letters, givens, goal = thing
    return are_givens(givens, letters) and is_open_pair(goal, letters)


def difference(pair, letters):
    """The polynomial of the first one of a pair less the second one."""
    return poly_plus(worked_out(pair[0], letters), worked_out(pair[1], letters), -1)


def working_holds(claim, thing):
    """Whether this is a working of the claim: how often each given goes into the goal."""
    letters, givens, goal = claim
    if not isinstance(thing, tuple) or len(thing) != len(givens):
        return False
    if not all([is_open(factor, letters) for factor in thing]):
        return False
    left = difference(goal, letters)
    for factor, given in zip(thing, givens):
        left = poly_plus(left, poly_times(worked_out(factor, letters), difference(given, letters)), -1)
    return len(left) == 0


def put_term(term, worths):
    """An open term with its letters' worths in their places; the word ahead of parts is no letter."""
    if isinstance(term, str):
        return worths[term]
    if isinstance(term, tuple):
        word, first, second = term
        return (word, put_term(first, worths), put_term(second, worths))
    return term


def put_pair(pair, worths):
    """The thing that a pair says, with its letters' worths in their places."""
    return ("same", put_term(pair[0], worths), put_term(pair[1], worths))


def put_claim(claim, worths):
    """The givens and the goal of a claim, put with worths, one for each letter."""
    letters, givens, goal = claim
    by_letter = dict(zip(letters, worths))
    return tuple([put_pair(pair, by_letter) for pair in givens]), put_pair(goal, by_letter)
