"""Papers that something holds in a house, or doesn't (21)."""

import itertools
import random
import unittest

from surenumbers.claims import is_claim
from surenumbers.grounds import needs
from surenumbers.houses import House
from surenumbers.kinds import MANY
from surenumbers.statements import is_statement
from surenumbers.things import show_thing
from surenumbers.whys import lot_holds, why, why_holds
from tests.entries import (CHAIN, ENTRIES, HOPELESS, PASSED_ON, RANGE, REST_OF_RING, RING_OF_ONE, RING_OF_THREE,
        RING_OF_TWO, TURNED, WIDER, fact, judged, link, same)
from tests.helpers import ANYTHING, Kept, spoilt
from tests.test_houses import ALL, EIGHT, PARTS, POOL, SEVEN, WORKED


def alike(one, other):
    """Whether two things are the same, truths no numbers."""
    return repr(one) == repr(other)


def is_paper_due(house, what, thing):
    """A paper that what holds, word by word."""
    if type(thing) is not tuple or not thing or not all(any(alike(entry, other) for other in house.entries())
            for entry in thing):
        return False
    if len(set(thing)) != len(thing) or any(needs(entry) is None for entry in thing):
        return False
    for at, entry in enumerate(thing):
        if not all(any(ahead[1] == need for ahead in thing[:at]) for need in needs(entry)):
            return False
        if at < len(thing) - 1 and not any(entry[1] in needs(behind) for behind in thing[at + 1:]):
            return False
    return thing[-1][1] == what


def is_lot_due(house, what, thing):
    """A paper that what doesn't hold, word by word."""
    if type(thing) is not tuple or not all(is_statement(part) or is_claim(part) for part in thing):
        return False
    texts = [show_thing(part) for part in thing]
    if texts != sorted(set(texts)) or what not in thing:
        return False
    said = [entry[1] for entry in house.entries()]
    for entry in house.entries():
        due = needs(entry)
        if entry[1] in thing and due is not None and not any(need in thing or need not in said for need in due):
            return False
    return True


def spoilt_papers(paper, house):
    """A tuple with something left out, twice, exchanged, or put in."""
    yield from ((), list(paper), paper[::-1], paper + paper[-1:], paper[-1:] + paper, None, paper[-1] if paper else 0)
    for at in range(len(paper)):
        yield paper[:at] + paper[at + 1:]
        yield paper[:at] + paper[at:at + 1] + paper[at:]
        for other in (None, 5, list(paper[at]), paper[at][1], paper[at] + (0,), SEVEN, same(77)):
            yield paper[:at] + (other,) + paper[at + 1:]
            yield paper[:at] + (other,) + paper[at:]
        for to in range(at):
            yield paper[:to] + paper[at:at + 1] + paper[to + 1:at] + paper[to:to + 1] + paper[at + 1:]
        for entry in house.entries():
            yield paper[:at] + (entry,) + paper[at:]
            yield paper[:at] + (entry,) + paper[at + 1:]


class Papers(Kept):
    def assert_papers(self, house, things):
        """Of each thing a paper is told that is let by on its side alone."""
        for what in things:
            told = why(house, what)
            self.assertEqual((type(told), len(told), type(told[1])), (tuple, 2, tuple))
            holds = house.holds(what)
            self.assertEqual(told[0], "yes" if holds else "no")
            self.assertIs(why_holds(house, what, told[1]), holds)
            self.assertIs(lot_holds(house, what, told[1]), not holds)
            self.assertIs(is_paper_due(house, what, told[1]), holds)
            self.assertIs(is_lot_due(house, what, told[1]), not holds)

    def assert_as_due(self, house, what, things):
        for thing in things:
            self.assertIs(why_holds(house, what, thing), is_paper_due(house, what, thing), (what, thing))
            self.assertIs(lot_holds(house, what, thing), is_lot_due(house, what, thing), (what, thing))


class TestHolding(Papers):
    def test_one_entry(self):
        for entry in ENTRIES:
            house = House((entry,))
            self.assert_papers(house, (entry[1],))
            if house.holds(entry[1]):
                self.assertEqual(why(house, entry[1]), ("yes", (entry,)))

    def test_chain(self):
        for entries in (CHAIN, CHAIN[::-1]):
            house = House(entries)
            for at, entry in enumerate(CHAIN):
                self.assertEqual(why(house, entry[1]), ("yes", CHAIN[:at + 1]))
            self.assert_papers(house, [entry[1] for entry in CHAIN])
            for left_out in CHAIN[1:]:
                paper = tuple(entry for entry in CHAIN if entry != left_out)
                self.assert_false(why_holds(house, CHAIN[-1][1], paper))

    def test_several_grounds(self):
        grounds = (judged(WIDER[0]), fact(WIDER[0], "each"))
        house = House((EIGHT, *grounds))
        what = WIDER[0]
        self.assert_true(why_holds(house, what, (grounds[0],)))
        self.assert_true(why_holds(house, what, (EIGHT, grounds[1])))
        for paper in ((EIGHT, *grounds), (grounds[0], EIGHT, grounds[1]), (EIGHT, grounds[0]), (EIGHT,),
                (grounds[1], EIGHT), (grounds[1],), (grounds[0], grounds[0])):
            self.assert_false(why_holds(house, what, paper))
        self.assert_papers(house, (what, EIGHT[1]))

    def test_one_fact_by_two_entries_of_a_paper(self):
        # Both say what is needed behind them, so the words let both stay.
        second = fact(EIGHT[1], "judged", ("witness", 3))
        house = House((EIGHT, second, fact(WIDER[0], "each")))
        self.assert_true(why_holds(house, WIDER[0], (EIGHT, second, house.entries()[2])))
        self.assert_as_due(house, WIDER[0], itertools.permutations(house.entries()))

    def test_spoilt(self):
        houses = (House((WORKED, same(5), link(5), SEVEN)), House((*PARTS, ALL, EIGHT, HOPELESS[0])),
                House(CHAIN[:5] + (SEVEN,)), House((REST_OF_RING, *RING_OF_THREE, judged(WIDER[0]))))
        for house in houses:
            for what in house.facts() + house.claims():
                paper = why(house, what)[1]
                self.assert_as_due(house, what, spoilt_papers(paper, house))
                for other in house.facts() + house.claims() + (SEVEN[1], RANGE):
                    self.assert_as_due(house, other, (paper,))

    def test_each_part_spoilt(self):
        house = House((*PARTS, ALL))
        paper = why(house, RANGE)[1]
        self.assert_as_due(house, RANGE, spoilt(paper))
        # A truth in a number's place.
        one = fact(("not", ("prime", 1)), "row", ("table", "many", (1,)), 1)
        house = House((judged(("table", "many", (1,))), one))
        paper = why(house, one[1])[1]
        self.assert_true(why_holds(house, one[1], paper))
        truth = fact(("not", ("prime", 1)), "row", ("table", "many", (1,)), True)
        self.assertEqual(one, truth)
        self.assert_false(why_holds(house, one[1], paper[:-1] + (truth,)))
        truth = fact(("not", ("prime", True)), "row", ("table", "many", (1,)), 1)
        self.assert_false(why_holds(house, one[1], paper[:-1] + (truth,)))

    def test_entries_of_another_house(self):
        house = House((WORKED, link(5), same(5)))
        paper = why(house, link(5)[1])[1]
        self.assert_true(why_holds(house, link(5)[1], paper))
        for entry in house.entries():
            house.take(entry)
            self.assert_false(why_holds(house, link(5)[1], paper))
            house.put(entry)
        self.assert_false(why_holds(House(), SEVEN[1], (SEVEN,)))


class TestNotHolding(Papers):
    def test_said_by_none(self):
        for house in (House(), House((SEVEN,)), House(RING_OF_THREE)):
            for what in (("prime", 9), ("not", ("prime", 7)), TURNED, ("all", 0, 0, ("prime", "n"))):
                self.assertEqual(why(house, what), ("no", (what,)))
                self.assert_true(lot_holds(house, what, (what,)))
                self.assert_false(lot_holds(house, what, ()))
        self.assert_false(lot_holds(House((SEVEN,)), SEVEN[1], (SEVEN[1],)))

    def test_hopeless(self):
        for entry in HOPELESS:
            house = House((entry,))
            self.assertEqual(why(house, entry[1]), ("no", (entry[1],)))
            self.assert_papers(house, (entry[1],))

    def test_rings(self):
        for ring in (RING_OF_THREE, RING_OF_TWO, (RING_OF_ONE,)):
            self.assert_papers(House(ring), [entry[1] for entry in ring])
            self.assert_papers(House((REST_OF_RING, *ring)), [entry[1] for entry in ring])
        house = House((REST_OF_RING, *RING_OF_THREE))
        ring = tuple(sorted((entry[1] for entry in RING_OF_THREE), key=show_thing))
        for entry in RING_OF_THREE:
            self.assert_true(lot_holds(house, entry[1], ring))
        for at in range(3):
            self.assert_false(lot_holds(house, ring[at - 1], ring[:at] + ring[at + 1:]))

    def test_for_lack_of_a_need(self):
        house = House((PARTS[0], ALL, PARTS[2]))
        self.assert_papers(house, (RANGE, PARTS[1][1]))
        lot = (RANGE,)
        self.assert_true(lot_holds(house, RANGE, lot))
        house.put(fact(PARTS[1][1], "judged", ("divisor", 2)))
        # Now an entry says it, if to no avail, so the lot must have it.
        self.assert_false(lot_holds(house, RANGE, lot))
        self.assert_true(lot_holds(house, RANGE, (RANGE, PARTS[1][1])))
        self.assert_papers(house, (RANGE, PARTS[1][1]))
        house.put(PARTS[1])
        self.assert_papers(house, (RANGE, PARTS[1][1]))
        self.assert_false(lot_holds(house, RANGE, (RANGE, PARTS[1][1])))

    def test_wrong_lots(self):
        house = House((fact(PARTS[1][1], "judged", ("divisor", 2)), ALL, PARTS[0], PARTS[2], same(1)))
        nine = PARTS[1][1]
        right = (RANGE, nine)
        self.assert_true(lot_holds(house, RANGE, right))
        self.assert_true(lot_holds(house, nine, right))
        self.assert_true(lot_holds(house, nine, (nine,)))
        more = [(RANGE, nine, ("prime", 9)), (TURNED, RANGE, nine), (RANGE, nine, ("same", 2, 2))]
        for lot in more:
            self.assert_true(lot_holds(house, RANGE, lot))
        for lot in ((nine, RANGE), (RANGE, RANGE, nine), (RANGE, nine, nine), (RANGE,), (nine,), (), [RANGE, nine],
                (RANGE, nine, 5), (RANGE, nine, "z"), (5, RANGE, nine), ((), RANGE, nine), (RANGE, nine, ("prime",)),
                (RANGE, nine, ("prime", True)), (RANGE, nine, ("same", True, 1)), (RANGE, nine, ["prime", 9]),
                (RANGE, nine, ("same", 1, 1)), (PARTS[2][1], RANGE, nine), None, 5, RANGE, "", {RANGE: nine}):
            self.assert_false(lot_holds(house, RANGE, lot))
            self.assertFalse(is_lot_due(house, RANGE, lot))

    def test_order_by_texts(self):
        house = House()
        ten, nine = ("prime", 10), ("prime", 9)
        self.assert_true(lot_holds(house, nine, (ten, nine)))
        self.assert_false(lot_holds(house, nine, (nine, ten)))
        claim = ((), (), (2, 3))
        self.assert_true(lot_holds(house, nine, (claim, nine)))
        self.assert_false(lot_holds(house, nine, (nine, claim)))

    def test_spoilt(self):
        houses = (House((*RING_OF_THREE, REST_OF_RING)), House((link(5), same(5), ("claim", TURNED, ()))),
                House((PARTS[0], ALL, fact(PARTS[1][1], "judged", ("divisor", 2)))), House(CHAIN[1:6]))
        for house in houses:
            for what in {entry[1] for entry in house.entries()} - set(house.facts() + house.claims()):
                lot = why(house, what)[1]
                for thing in spoilt(lot):
                    self.assertIs(lot_holds(house, what, thing), is_lot_due(house, what, thing), thing)

    def test_of_anything(self):
        for house in (House(), House((SEVEN, WORKED))):
            for what in (SEVEN[1], TURNED, RANGE):
                self.assert_as_due(house, what, ANYTHING)


class TestBoth(Papers):
    def test_every_house_of_some_entries(self):
        entries = (fact(PARTS[1][1], "judged", ("divisor", 2)), PARTS[1], ALL, PARTS[0], PARTS[2], RING_OF_THREE[2],
                RING_OF_THREE[1], RING_OF_THREE[0], judged(WIDER[1]))
        things = tuple(dict.fromkeys(entry[1] for entry in entries))
        for many in range(len(entries) + 1):
            for chosen in itertools.combinations(entries, many):
                self.assert_papers(House(chosen), things)

    def test_no_lot_of_what_holds(self):
        # Whatever some of the things there are: a lot is let by for just those that don't hold.
        for entries in ((PARTS[0], fact(WIDER[0], "each"), *RING_OF_THREE[:2], HOPELESS[6]),
                (*RING_OF_THREE, REST_OF_RING), (WORKED, link(2), same(2), ("claim", PASSED_ON, (1,)))):
            house = House(entries)
            things = sorted({entry[1] for entry in entries} | {("prime", 11)}, key=show_thing)
            for what in things:
                lots = [lot for many in range(len(things) + 1) for lot in itertools.combinations(things, many)
                        if lot_holds(house, what, lot)]
                self.assertIs(bool(lots), not house.holds(what))
                papers = [paper for many in range(len(entries) + 1) for paper in itertools.permutations(entries, many)
                        if why_holds(house, what, paper)]
                self.assertIs(bool(papers), house.holds(what))

    def test_walks(self):
        chosen = random.Random(11)
        for _ in range(60):
            entries = chosen.sample(POOL, chosen.randrange(MANY + 1))
            house = House(tuple(entries))
            things = {entry[1] for entry in entries} | {need for entry in entries for need in needs(entry) or ()}
            self.assert_papers(house, things)

    def test_kept_and_by_names(self):
        house = House((*PARTS, ALL))
        paper = why(house=house, what=RANGE)
        self.assertEqual(paper, why(house, RANGE))
        self.assert_true(why_holds(thing=paper[1], what=RANGE, house=house))
        self.assert_true(lot_holds(thing=(TURNED,), what=TURNED, house=house))
        things = [list(paper[1]), [RANGE]]
        why_holds(house, RANGE, things)
        self.assertEqual(things, [list(paper[1]), [RANGE]])
        self.assertEqual((house.log(), house.looks(), house.entries()), ((0, 0), 4, (*PARTS, ALL)))


if __name__ == "__main__":
    unittest.main()
