"""Why something holds in a house, or doesn't: papers told, and looked at."""

from surenumbers.papers import is_lot, is_paper, is_statement_or_claim, lot_of, paper_of


def why(house, what):
    """A paper that what, a statement or a claim, holds ("yes"), or that it doesn't ("no")."""
    if house.holds(what):
        return ("yes", paper_of(house.rows(), what))
    return ("no", lot_of(house.rows(), what))


def why_holds(house, what, thing):
    """Whether this is a paper that what holds."""
    return is_statement_or_claim(what) and is_paper(house.rows(), what, thing)


def lot_holds(house, what, thing):
    """Whether this is a paper that what doesn't hold."""
    return is_statement_or_claim(what) and is_lot(house.rows(), what, thing)
