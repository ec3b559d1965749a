"""Texts of houses: a row for each entry."""

from surenumbers.errors import NoLine, NoText
from surenumbers.grounds import is_entry
from surenumbers.houses import House
from surenumbers.kinds import MANY, MOST
from surenumbers.things import read_thing, size_of


def show_house(house):
    """The text of a house."""
    return str(house)


def read_entry(line):
    """The entry that has this text; None where none has."""
    try:
        thing = read_thing(line)
    except NoText:
        return None
    return thing if is_entry(thing) else None


def read_house(text, *, most=MOST):
    """The house that has just this text; else NoLine of the first line that is wrong."""
    if not isinstance(text, str):
        raise NoLine(0)
    lines = text.split("\n") if text != "" else []
    entries = []
    for number, line in enumerate(lines):
        entry = read_entry(line)
        if number >= MANY or entry is None or size_of(entry) > most or line in lines[:number]:
            raise NoLine(number)
        entries.append(entry)
    return House(tuple(entries), most=most)
