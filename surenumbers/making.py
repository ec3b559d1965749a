"""Certificates made for a statement of any sort."""

from surenumbers.errors import TooGreat
from surenumbers.kinds import LIMIT
from surenumbers.sorts import functions_of
from surenumbers.statements import looked_at, put_in, span_of

OTHER_SIDES = {"yes": "no", "no": "yes"}


def made_till(low, high, inner, side):
    """The first number from low to high at which this side is told, what is told there, and what ahead of it.

    Where this side is told nowhere, the number is None, and so is what is told there.
    """
    things = []
    for number in range(low, high + 1):
        told, thing = made_whatever(put_in(inner, number))
        if told == side:
            return number, thing, tuple(things)
        things.append(thing)
    return None, None, tuple(things)


def made_span(statement):
    """What is told of an "all" or a "some"."""
    low, high, inner = span_of(statement)
    # One no is enough against an "all", one yes for a "some".
    side = "no" if statement[0] == "all" else "yes"
    number, thing, things = made_till(low, high, inner, side)
    if number is None:
        return (OTHER_SIDES[side], ("each", things))
    return (side, ("at", number, thing))


def made_least(statement):
    """What is told of a "least"."""
    low, high, inner = span_of(statement)
    number, thing, things = made_till(low, high - 1, inner, "yes")
    if number is not None:
        return ("no", ("sooner", number, thing))
    side, last = made_whatever(put_in(inner, high))
    return ("yes", ("least", things, last)) if side == "yes" else ("no", ("fails", last))


def made_whatever(statement):
    """What is told of a statement, whatever is looked at."""
    word = statement[0]
    if word == "not":
        side, thing = made_whatever(statement[1])
        return (OTHER_SIDES[side], thing)
    if word == "least":
        return made_least(statement)
    if word in ("all", "some"):
        return made_span(statement)
    shows, denies, makes = functions_of(word)
    return makes(statement)


def made(statement, *, limit=LIMIT):
    """A yes or a no of the statement; TooGreat of the first number looked at that is above the limit."""
    for number in looked_at(statement):
        if number > limit:
            raise TooGreat(number)
    return made_whatever(statement)
