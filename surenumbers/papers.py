"""Papers: which entries show what they say, by which others; and what nothing can show.

Things are looked for by their texts: no two things have the same, and what has a truth in it has none.
"""

from surenumbers.claims import is_claim
from surenumbers.grounds import needs
from surenumbers.statements import is_statement
from surenumbers.things import is_thing, rising, show_thing


class Looked:
    """An entry that was looked at, once: its text, those of what it says and of what it needs (None as there)."""

    def __init__(self, entry):
        told = needs(entry)
        self.entry = entry
        self.text = show_thing(entry)
        self.says = show_thing(entry[1])
        self.needed = None if told is None else tuple([show_thing(what) for what in told])


def has_needs(row, known):
    """Whether a row can be shown, all that it needs being known."""
    return row.needed is not None and all([text in known for text in row.needed])


def are_founded(rows):
    """Whether these rows are unlike, can be shown, and each need of one is said by one ahead of it."""
    there = {}
    known = {}
    for row in rows:
        if row.text in there or not has_needs(row, known):
            return False
        there[row.text] = True
        known[row.says] = True
    return True


def showing_rows(rows):
    """Of each thing that holds, by its text, one row that shows it, behind those that show what this one needs."""
    shown = {}
    before = -1
    while len(shown) > before:
        before = len(shown)
        for row in rows:
            if row.says not in shown and has_needs(row, shown):
                shown[row.says] = row
    return shown


def paper_of(rows, what):
    """A paper that what holds; what does hold."""
    shown = showing_rows(rows)
    wanted = {show_thing(what): True}
    paper = []
    for row in reversed(list(shown.values())):
        if row.says in wanted:
            paper.append(row.entry)
            wanted.update({text: True for text in row.needed})
    return tuple(paper[::-1])


def lacked_by(row, shown):
    """The text of the first thing that a row needs and that doesn't hold; None where no needs can show it."""
    if row.needed is None:
        return None
    return [text for text in row.needed if text not in shown][0]


def lot_of(rows, what):
    """A lot, what among it, of which nothing holds, by one need of each row that says one of it; what doesn't hold."""
    shown = showing_rows(rows)
    said = {row.says: row.entry[1] for row in rows}
    waiting = [show_thing(what)]
    lot = {waiting[0]: what}
    while len(waiting) > 0:
        text = waiting.pop()
        for lacked in [lacked_by(row, shown) for row in rows if row.says == text]:
            if lacked in said and lacked not in lot:
                lot[lacked] = said[lacked]
                waiting.append(lacked)
    return rising(tuple(lot.values()))


def rows_told(rows, thing):
    """The rows of these entries, in their order; None where this is no tuple of entries that are there."""
    if not isinstance(thing, tuple) or not is_thing(thing):
        return None
    by_text = {row.text: row for row in rows}
    texts = [show_thing(entry) for entry in thing]
    return [by_text[text] for text in texts] if all([text in by_text for text in texts]) else None


def are_wanted(rows):
    """Whether what each row but the last one says is needed by one behind it."""
    wanted = {text: True for text in rows[-1].needed}
    for row in reversed(rows[:-1]):
        if row.says not in wanted:
            return False
        wanted.update({text: True for text in row.needed})
    return True


def is_paper(rows, what, thing):
    """Whether this is a paper, of entries of these rows, that what holds."""
    chosen = rows_told(rows, thing)
    if chosen is None or len(chosen) == 0 or not are_founded(chosen):
        return False
    return chosen[-1].says == show_thing(what) and are_wanted(chosen)


def is_statement_or_claim(thing):
    """Whether this is something that an entry may say."""
    return is_statement(thing) or is_claim(thing)


def is_lot(rows, what, thing):
    """Whether this is a paper, of these rows, that what doesn't hold."""
    if not isinstance(thing, tuple) or not all([is_statement_or_claim(part) for part in thing]):
        return False
    lot = {show_thing(part): True for part in thing}
    if show_thing(what) not in lot or thing != rising(thing):
        return False
    # Even if all that is said outside the lot held, no row might show anything of the lot.
    outside = {row.says: True for row in rows if row.says not in lot}
    return not any([row.says in lot and has_needs(row, outside) for row in rows])
