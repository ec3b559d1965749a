"""Findings: what was found, with what shows it, so that whoever doubts it can look."""

from surenumbers.basics import are_wholes, within, word_ahead
from surenumbers.claims import is_claim, working_holds
from surenumbers.errors import NoLine
from surenumbers.housetexts import read_house
from surenumbers.judging import statement_holds
from surenumbers.kinds import WORDS
from surenumbers.samples import MOST_SUMS, are_places, is_sample, missed, sample_holds
from surenumbers.statements import MOST_ROWS, is_statement
from surenumbers.whys import lot_holds, why_holds


def finds_yes(statement, thing):
    """Whether this is a yes of a statement, of whatever size."""
    return is_statement(statement) and statement_holds(statement, thing, True)


def finds_no(statement, thing):
    """Whether this is a no of a statement, of whatever size."""
    return is_statement(statement) and statement_holds(statement, thing, False)


def finds_sample(word, size, places, sums, thing):
    """Whether a sample lets this by."""
    if word not in WORDS or not within(size, 1, MOST_ROWS) or not is_sample(word, size, places, sums):
        return False
    return sample_holds(word, size, places, sums, thing)


def finds_missed(size, places, sums, thing):
    """Whether this is what a sample misses."""
    if not within(size, 1, MOST_ROWS) or not are_places(places, size) or not within(sums, 0, MOST_SUMS):
        return False
    due = missed(size, places, sums)
    return are_wholes(thing, len(due)) and thing == due


def finds_working(claim, thing):
    """Whether this is a working of a claim."""
    return is_claim(claim) and working_holds(claim, thing)


def house_of(text):
    """The house that has this text; None where none has."""
    try:
        return read_house(text)
    except NoLine:
        return None


def finds_holds(text, what, thing):
    """Whether this is a paper that what holds in the house of the text."""
    house = house_of(text)
    return house is not None and why_holds(house, what, thing)


def finds_fails(text, what, thing):
    """Whether this is a paper that what doesn't hold in the house of the text."""
    house = house_of(text)
    return house is not None and lot_holds(house, what, thing)


LENGTHS = {"yes": 3, "no": 3, "sample": 6, "missed": 5, "working": 3, "holds": 4, "fails": 4}

FINDS = {
    "yes": finds_yes, "no": finds_no, "sample": finds_sample, "missed": finds_missed, "working": finds_working,
    "holds": finds_holds, "fails": finds_fails,
}


def finding_holds(thing):
    """Whether this is a finding that holds."""
    word = word_ahead(thing)
    if word not in FINDS or len(thing) != LENGTHS[word]:
        return False
    finds = FINDS[word]
    parts = thing[1:]
    return finds(*parts)
