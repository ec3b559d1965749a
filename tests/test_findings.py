"""Findings (28)."""

import unittest

from surenumbers.claims import is_claim, working_holds
from surenumbers.findings import finding_holds
from surenumbers.houses import House
from surenumbers.housetexts import read_house, show_house
from surenumbers.errors import NoLine
from surenumbers.judging import no_holds, yes_holds
from surenumbers.kinds import MANY, MOST, WORDS
from surenumbers.making import made
from surenumbers.pells import fraction_of, pell_rows
from surenumbers.samples import forged, missed, sample_holds
from surenumbers.statements import is_statement
from surenumbers.tables import table_of
from surenumbers.things import show_thing, size_of
from surenumbers.whys import why
from tests.entries import (CHAIN, HOPELESS, PASSED_ON, PLAIN, RANGE, REST_OF_RING, RING_OF_ONE, RING_OF_THREE, SQUARED,
        TURNED, WORKINGS, link, same)
from tests.examples import EXAMPLES, ranges
from tests.helpers import ANYTHING, Kept, spoilt
from tests.test_houses import ALL, EIGHT, PARTS, SEVEN, WORKED
from tests.test_whys import is_lot_due, is_paper_due

HOUSES = (
    (), (SEVEN,), (ALL, *PARTS), (ALL, *PARTS[:2]), (WORKED, same(5), link(5), HOPELESS[0]),
    (*RING_OF_THREE, REST_OF_RING, RING_OF_ONE), CHAIN,
)


def are_places_due(places, size):
    return type(places) is tuple and all(type(place) is int and 1 <= place <= size for place in places) and list(
            places) == sorted(set(places))


def is_sample_due(size, places, sums, most):
    """Whether these make a sample of a size."""
    return type(size) is int and 1 <= size <= 200 and are_places_due(places, size) and type(
            sums) is int and 0 <= sums <= most


def house_due(text):
    try:
        return read_house(text)
    except NoLine:
        return None


def is_finding_due(thing):
    """Whether this is a finding that holds, word by word."""
    if type(thing) is not tuple:
        return False
    match thing:
        case ("yes", statement, part):
            return is_statement(statement) and yes_holds(statement, part, most=10 ** 9)
        case ("no", statement, part):
            return is_statement(statement) and no_holds(statement, part, most=10 ** 9)
        case ("sample", word, size, places, sums, part):
            if type(word) is not str or word not in WORDS:
                return False
            return is_sample_due(size, places, sums, 0 if word == "least" else 8) and sample_holds(word, size, places,
                    sums, part)
        case ("missed", size, places, sums, part):
            return is_sample_due(size, places, sums, 8) and repr(part) == repr(missed(size, places, sums))
        case ("working", claim, part):
            return is_claim(claim) and working_holds(claim, part)
        case (("holds" | "fails") as word, text, what, part):
            if not is_statement(what) and not is_claim(what) or house_due(text) is None:
                return False
            return (is_paper_due if word == "holds" else is_lot_due)(house_due(text), what, part)
    return False


class Findings(Kept):
    def assert_holds(self, *thing):
        self.assertIs(finding_holds(thing), True, thing)

    def assert_fails(self, *thing):
        self.assertIs(finding_holds(thing), False, thing)

    def assert_spoilt(self, *thing):
        for other in spoilt(thing):
            self.assertIs(finding_holds(other), is_finding_due(other), other)


class TestStatements(Findings):
    def test_either_way(self):
        for statement, is_so in EXAMPLES + list(ranges())[::7]:
            thing = made(statement, limit=99999)[1]
            right, wrong = ("yes", "no") if is_so else ("no", "yes")
            self.assert_holds(right, statement, thing)
            self.assert_fails(wrong, statement, thing)
            self.assert_holds(wrong, ("not", statement), thing)
            self.assert_fails(right, ("not", statement), thing)
            self.assert_fails("maybe", statement, thing)

    def test_of_whatever_size(self):
        first, second = fraction_of(pell_rows(9949))
        statement = ("all", 0, 39, ("pell", 9949, first, second))
        side, thing = made(statement)
        self.assertGreater(size_of(thing), MOST)
        self.assert_holds("yes", statement, thing)
        self.assert_fails("yes", statement, ("each", thing[1][1:]))
        self.assert_holds("no", ("not", statement), thing)

    def test_what_is_no_statement(self):
        for thing in (*ANYTHING, ("prime", True), ("prime", -1), PLAIN):
            self.assert_fails("yes", thing, ("walk",))
            self.assert_fails("no", thing, ("few",))
            self.assert_fails("yes", ("prime", 7), thing)
            self.assert_fails("no", ("prime", 8), thing)

    def test_spoilt(self):
        for statement in (("prime", 7), ("divides", 3, 12), RANGE, ("not", ("prime", 9)), ("table", "many", (1, 2, 2))):
            self.assert_spoilt("yes", statement, made(statement)[1])
        for statement in (("prime", 8), ("shared", 4, 6, 1), ("not", RANGE)):
            self.assert_spoilt("no", statement, made(statement)[1])


class TestSamples(Findings):
    def test_lets_by(self):
        for word in WORDS:
            for size, places, sums in ((1, (), 0), (5, (1, 3), 0), (5, (1, 2, 3, 4, 5), 0), (200, (7, 199), 0),
                    (9, (), 8), (9, (1, 9), 3), (200, (200,), 8)):
                right = table_of(word, size)
                is_sample = sums == 0 or word != "least"
                self.assertIs(finding_holds(("sample", word, size, places, sums, right)), is_sample)
                if is_sample:
                    wrong = forged(word, size, places, sums)
                    if wrong is not None:
                        self.assert_holds("sample", word, size, places, sums, wrong)
                for at in places:
                    other = right[:at - 1] + (right[at - 1] + 1,) + right[at:]
                    self.assert_fails("sample", word, size, places, sums, other)
                for other in (right[:-1], right + (1,), list(right), (True,) + right[1:], None, 5):
                    self.assert_fails("sample", word, size, places, sums, other)

    def test_no_samples(self):
        right = (1, 2, 2, 3, 2)
        self.assert_holds("sample", "many", 5, (1, 2), 2, right)
        for wrong in (("sums", 5, (1, 2), 2), (None, 5, (1, 2), 2), (["many"], 5, (1, 2), 2), ("many", 0, (), 0),
                ("many", 6, (1, 2), 2), ("many", True, (), 0), ("many", 5, [1, 2], 2), ("many", 5, (2, 1), 2),
                ("many", 5, (1, 1), 2), ("many", 5, (0, 1), 2), ("many", 5, (1, 6), 2), ("many", 5, (True, 2), 2),
                ("many", 5, (1, 2), 9), ("many", 5, (1, 2), -1), ("many", 5, (1, 2), True), ("many", 5, (1, 2), None),
                ("many", 5, None, 2), ("many", 5, 1, 2)):
            self.assert_fails("sample", *wrong, right)
        self.assert_holds("sample", "least", 2, (), 0, (1, 2))
        self.assert_fails("sample", "least", 2, (), 1, (1, 2))
        self.assert_fails("sample", "many", 201, (), 0, table_of("many", 201))
        self.assert_holds("sample", "many", 200, (), 0, table_of("many", 200))
        self.assert_fails("sample", "many", 1, (), 0, (True,))
        self.assert_fails("sample", "many", 0, (), 0, ())
        self.assert_fails("missed", 0, (), 0, ())

    def test_missed(self):
        for size, places, sums in ((1, (), 0), (1, (1,), 0), (5, (1, 2), 2), (5, (1, 2), 3), (9, (), 8), (8, (), 8),
                (200, (3,), 8)):
            due = missed(size, places, sums)
            self.assert_holds("missed", size, places, sums, due)
            for other in (due + (1,), due[1:] if due else (1,), list(due), None, 0, due[::-1] if len(due) > 1 else 5):
                self.assert_fails("missed", size, places, sums, other)
        self.assert_fails("missed", 1, (), 0, (True,))
        self.assert_holds("missed", 1, (), 0, (1,))
        self.assert_fails("missed", 1, (), 0, ())
        for wrong in ((0, (), 0), (201, (), 0), (True, (), 0), (5, [1], 0), (5, (6,), 0), (5, (0,), 0), (5, (2, 1), 0),
                (5, (1, 1), 0), (5, (True,), 0), (5, (1,), 9), (5, (1,), -1), (5, (1,), False), ("5", (), 0)):
            for thing in ((), (1,), (2, 3, 4, 5), tuple(range(1, 202))):
                self.assert_fails("missed", *wrong, thing)

    def test_spoilt(self):
        self.assert_spoilt("sample", "many", 5, (1, 2), 2, (1, 2, 3, 1, 3))
        self.assert_spoilt("sample", "total", 4, (1, 2, 3, 4), 0, (1, 3, 4, 7))
        self.assert_spoilt("sample", "least", 3, (2,), 0, (1, 2, 9))
        self.assert_spoilt("missed", 5, (1, 2), 2, (3, 4, 5))
        self.assert_spoilt("missed", 1, (), 0, (1,))


class TestWorkings(Findings):
    def test_workings(self):
        for claim, working in WORKINGS:
            self.assert_holds("working", claim, working)
            self.assert_fails("working", claim, working + (0,))
            self.assert_fails("working", claim, list(working))
            self.assert_spoilt("working", claim, working)
        for claim, working in ((PASSED_ON, (1, 2)), (TURNED, (True,)), (SQUARED, 5)):
            self.assert_fails("working", claim, working)
        for thing in (*ANYTHING, ("prime", 7), (("b", "a"), (), (0, 0))):
            self.assert_fails("working", thing, ())
            self.assert_fails("working", PASSED_ON, thing)


class TestHouses(Findings):
    def test_papers(self):
        for entries in HOUSES:
            house = House(entries)
            text = show_house(house)
            for what in {entry[1] for entry in entries} | {("prime", 11), RANGE, PLAIN}:
                word, paper = why(house, what)
                right, wrong = ("holds", "fails") if word == "yes" else ("fails", "holds")
                self.assert_holds(right, text, what, paper)
                self.assert_fails(wrong, text, what, paper)
                self.assert_fails(right, text, what, list(paper))
                self.assert_fails(right, text + "\n", what, paper)
                self.assert_fails(right, " " + text, what, paper)
                self.assert_fails(right, house, what, paper)
                self.assert_fails(right, text, what, paper + paper[-1:])

    def test_spoilt(self):
        for entries in HOUSES[:5]:
            house = House(entries)
            for what in {entry[1] for entry in entries} | {("prime", 11)}:
                word, paper = why(house, what)
                self.assert_spoilt("holds" if word == "yes" else "fails", show_house(house), what, paper)

    def test_what_is_no_text_of_a_house(self):
        lot = (("prime", 11),)
        for text in (*[thing for thing in ANYTHING if thing != ""], "\n", show_thing(SEVEN) + " ", "(prime 7)",
                "\n".join(show_thing(same(k)) for k in range(MANY + 1)),
                show_thing(("claim", PLAIN, (1,) * MOST))):
            self.assert_fails("fails", text, lot[0], lot)
            self.assert_fails("holds", text, SEVEN[1], (SEVEN,))
        self.assert_holds("fails", "", lot[0], lot)

    def test_what_is_neither(self):
        for what in (*ANYTHING, ("prime", True), ["prime", 7], SEVEN):
            self.assert_fails("fails", "", what, (what,))
            self.assert_fails("holds", show_thing(SEVEN), what, (SEVEN,))

    def test_entries_of_another_house(self):
        self.assert_holds("holds", show_thing(EIGHT), EIGHT[1], (EIGHT,))
        self.assert_fails("holds", show_thing(SEVEN), EIGHT[1], (EIGHT,))
        self.assert_fails("holds", "", EIGHT[1], (EIGHT,))


class TestOfAnything(Findings):
    def test_anything(self):
        for thing in ANYTHING:
            self.assertIs(finding_holds(thing), False)
            self.assert_kept(finding_holds, thing)

    def test_words_and_lengths(self):
        right = (("yes", ("prime", 2), ("chain", ())), ("no", ("prime", 1), ("few",)), ("working", PLAIN, ()),
                ("sample", "many", 1, (1,), 0, (1,)), ("missed", 1, (1,), 0, ()), ("fails", "", RANGE, (RANGE,)),
                ("holds", show_thing(SEVEN), SEVEN[1], (SEVEN,)))
        for thing in right:
            self.assert_holds(*thing)
            self.assertIs(finding_holds(thing=thing), True)
            self.assertIs(finding_holds(list(thing)), False)
            self.assert_fails(*thing[:-1])
            self.assert_fails(*thing, 0)
            self.assert_kept(finding_holds, thing)
            for word in ("", "YES", "Holds", 1, True, None, (thing[0],), [thing[0]], "papers"):
                self.assert_fails(word, *thing[1:])
            for other in right:
                if other[0] != thing[0]:
                    self.assertIs(finding_holds((other[0], *thing[1:])), is_finding_due((other[0], *thing[1:])))


if __name__ == "__main__":
    unittest.main()
