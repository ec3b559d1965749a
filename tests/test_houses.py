"""Houses: what is put and taken, what holds, what is done together, how it goes back (20)."""

import random
import unittest

from surenumbers.errors import Full, NoEntry, NotThere, TooLong
from surenumbers.grounds import is_entry, needs
from surenumbers.houses import House
from surenumbers.kinds import MANY, MOST
from surenumbers.making import made
from surenumbers.things import show_thing, size_of
from tests.entries import (CHAIN, ENTRIES, PASSED_ON, PLAIN, RANGE, REST_OF_RING, REST_OF_TWO, RING_OF_ONE,
        RING_OF_THREE, RING_OF_TWO, SQUARED, TURNED, WIDER, fact, judged, link, same)
from tests.helpers import ANYTHING, Kept, spoilt

SEVEN = judged(("prime", 7))
EIGHT = judged(("not", ("prime", 8)))
WORKED = ("claim", TURNED, (0,))
ALL = fact(RANGE, "each")
POOL = list(dict.fromkeys([*ENTRIES, *CHAIN, *RING_OF_THREE, REST_OF_RING, *RING_OF_TWO, REST_OF_TWO]))
PARTS = tuple(judged(("not", ("prime", k))) for k in (8, 9, 10))


def holding_due(entries):
    """What holds by these entries, by rounds, from those without needs on."""
    held = []
    while True:
        new = [entry[1] for entry in entries if needs(entry) is not None and entry[1] not in held
                and all(what in held for what in needs(entry))]
        if not new:
            return held
        held += new


def rising_due(things):
    return tuple(sorted(set(things), key=show_thing))


def full_house():
    return House(tuple(same(k) for k in range(MANY)))


class Counted(Kept):
    def refused(self, kind, function, *handed, **named):
        """The refusal of just this kind that a call meets with."""
        with self.assertRaises(kind) as caught:
            function(*handed, **named)
        self.assertIs(type(caught.exception), kind)
        return caught.exception

    def assert_house(self, house, entries):
        """The house has just these entries, in this order, and tells of them what is due."""
        self.assertEqual(house.entries(), tuple(entries))
        self.assertEqual(len(house), len(entries))
        self.assertEqual(str(house), "\n".join(show_thing(entry) for entry in entries))
        self.assertEqual(house, House(tuple(entries), most=10 ** 9))
        held = holding_due(entries)
        self.assertEqual(house.facts(), rising_due(what for what in held if type(what[0]) is str))
        self.assertEqual(house.claims(), rising_due(what for what in held if type(what[0]) is tuple))
        for entry in entries:
            self.assert_true(house.has(entry))
            self.assertIs(house.holds(entry[1]), entry[1] in held)
            self.assertEqual(house.said(entry[1]), tuple(other[2] for other in entries if other[1] == entry[1]))


class TestPut(Counted):
    def test_new_and_old(self):
        house = House()
        self.assert_house(house, ())
        for at, entry in enumerate(ENTRIES[:MANY]):
            self.assert_true(house.put(entry))
            self.assert_false(house.put(entry))
            self.assert_house(house, ENTRIES[:at + 1])

    def test_each_entry(self):
        for entry in ENTRIES:
            house = House()
            self.assert_true(house.put(entry=entry))
            self.assert_house(house, (entry,))

    def test_no_entry(self):
        house = House((SEVEN,))
        for thing in (*ANYTHING, *[thing for thing in spoilt(SEVEN) if not is_entry(thing)]):
            self.assertEqual(repr(self.refused(NoEntry, house.put, thing).entry), repr(thing))
        self.assert_house(house, (SEVEN,))
        self.assertEqual(house.looks(), 1)

    def test_too_long(self):
        for entry in ENTRIES:
            size = size_of(entry)
            self.assert_true(House(most=size).put(entry))
            house = House(most=size - 1)
            self.assertEqual(self.refused(TooLong, house.put, entry).size, size)
            self.assert_house(house, ())
            self.assertEqual((house.looks(), house.log()), (0, (1, 1)))
        self.refused(NoEntry, House(most=0).put, 5)
        self.assertEqual(self.refused(TooLong, House(most=0).put, SEVEN).size, size_of(SEVEN))

    def test_most_where_none_is_told(self):
        longest = ("claim", PLAIN, (1,) * (MOST - size_of(("claim", PLAIN))))
        self.assertEqual(size_of(longest), MOST)
        self.assert_true(House().put(longest))
        longer = ("claim", PLAIN, longest[2] + (1,))
        self.assertEqual(self.refused(TooLong, House().put, longer).size, MOST + 1)

    def test_full(self):
        house = full_house()
        before = house.entries()
        self.assertEqual(self.refused(Full, house.put, SEVEN).many, MANY)
        for entry in before:
            self.assert_false(house.put(entry))
        self.assertEqual(self.refused(NoEntry, house.put, 5).entry, 5)
        self.assertEqual(house.entries(), before)
        house.take(before[3])
        self.assert_true(house.put(SEVEN))
        self.assert_house(house, before[:3] + before[4:] + (SEVEN,))
        short = House(before, most=size_of(before[0]))
        # What is too long and has no place, too, is too long.
        self.assertEqual(self.refused(TooLong, short.put, SEVEN).size, size_of(SEVEN))

    def test_several_of_one_fact(self):
        entries = (SEVEN, fact(("prime", 7), "row", ("table", "many", (1, 2, 2, 3, 2, 4, 2)), 7),
                fact(("prime", 7), "judged", ("divisor", 2)), fact(("prime", 7), "judged", ("walk",)))
        house = House(entries)
        self.assertEqual(house.said(("prime", 7)), tuple(entry[2] for entry in entries))
        self.assert_house(house, entries)

    def test_alike_with_truths(self):
        one = fact(("same", 1, 1), "judged", ("walk",))
        house = House((one, same(0)))
        for thing in (fact(("same", True, 1), "judged", ("walk",)), fact(("same", 1, True), "judged", ("walk",)),
                fact(("same", False, 0), "judged", ("walk",))):
            self.assert_false(house.has(thing))
            self.assert_false(house.holds(thing[1]))
            self.assertEqual(house.said(thing[1]), ())
            self.refused(NoEntry, house.put, thing)
            self.refused(NotThere, house.take, thing)
        at = fact(("not", ("prime", 1)), "row", ("table", "many", (1,)), 1)
        house.put(at)
        for thing in (fact(("not", ("prime", 1)), "row", ("table", "many", (1,)), True),
                fact(("not", ("prime", 1)), "row", ("table", "many", (True,)), 1)):
            self.assert_false(house.has(thing))
            self.refused(NoEntry, house.put, thing)
            self.refused(NotThere, house.take, thing)


class TestBeginning(Counted):
    def test_begun(self):
        house = House((SEVEN, EIGHT, SEVEN, WORKED))
        self.assert_house(house, (SEVEN, EIGHT, WORKED))
        self.assertEqual((house.looks(), house.log()), (3, (0, 0)))
        house.back(2)
        self.assert_house(house, (SEVEN, EIGHT))
        house.back(0)
        self.assert_house(house, ())

    def test_refused(self):
        self.assertEqual(self.refused(NoEntry, House, (SEVEN, 5, EIGHT)).entry, 5)
        self.assertEqual(self.refused(TooLong, House, (SEVEN, EIGHT), most=size_of(SEVEN) - 1).size, size_of(SEVEN))
        self.assertEqual(self.refused(Full, House, tuple(same(k) for k in range(MANY + 1))).many, MANY)
        self.assertEqual(len(House(tuple(same(k % MANY) for k in range(MANY + 5)))), MANY)

    def test_by_names(self):
        self.assert_house(House(entries=(SEVEN,), most=100), (SEVEN,))
        self.assertRaises(TypeError, House, (SEVEN,), 100)
        self.assert_house(House(most=100), ())

    def test_nothing_is_shared(self):
        entries = (SEVEN, EIGHT)
        one, other = House(entries), House(entries)
        one.put(WORKED)
        one.take(SEVEN)
        self.assertEqual(entries, (SEVEN, EIGHT))
        self.assert_house(other, entries)
        self.assertEqual((other.looks(), other.log(), one.log()), (2, (0, 0), (2, 2)))
        third = House(one.entries())
        third.back(0)
        self.assert_house(one, (EIGHT, WORKED))


class TestTake(Counted):
    def test_take(self):
        house = House((SEVEN, EIGHT, WORKED))
        self.assertIsNone(house.take(entry=EIGHT))
        self.assert_house(house, (SEVEN, WORKED))
        self.assertEqual(self.refused(NotThere, house.take, EIGHT).entry, EIGHT)
        self.assert_true(house.put(EIGHT))
        self.assert_house(house, (SEVEN, WORKED, EIGHT))

    def test_not_there(self):
        house = House((SEVEN,))
        for thing in (*ANYTHING, *[thing for thing in spoilt(SEVEN) if repr(thing) != repr(SEVEN)], EIGHT):
            self.assertEqual(repr(self.refused(NotThere, house.take, thing).entry), repr(thing))
        self.assert_house(house, (SEVEN,))


class TestReading(Counted):
    def test_of_anything(self):
        house = House((SEVEN, WORKED, ALL, *PARTS))
        for thing in (*ANYTHING, *spoilt(SEVEN), *spoilt(SEVEN[1]), *spoilt(TURNED)):
            self.assertIs(house.has(thing), repr(thing) in map(repr, house.entries()))
            due = repr(thing) in [repr(what) for what in house.facts() + house.claims()]
            self.assertIs(house.holds(thing), due)
            self.assertEqual(house.said(thing) == (), not due)
            self.assert_kept(house.has, thing)
            self.assert_kept(house.holds, thing)
            self.assert_kept(house.said, thing)
        self.assert_true(house.holds(what=RANGE))
        self.assert_true(house.has(entry=ALL))
        self.assertEqual(house.said(what=TURNED), ((0,),))

    def test_facts_and_claims_rise_by_their_texts(self):
        numbers = (9, 10, 100, 2, 11)
        house = House(tuple(same(k) for k in numbers) + (SEVEN, WORKED, ("claim", PLAIN, ()), ("claim", SQUARED, ())))
        self.assertEqual(house.facts(), (("prime", 7),) + tuple(("same", k, k) for k in (10, 100, 11, 2, 9)))
        self.assertEqual(house.claims(), rising_due((TURNED, PLAIN, SQUARED)))

    def test_entries_by(self):
        entries = tuple(same(k) for k in (9, 10, 3, 100, 2)) + (SEVEN, WORKED)
        house = House(entries)
        self.assertEqual(house.entries(by=None), entries)
        for by in (size_of, show_thing, lambda entry: 0, lambda entry: "", lambda entry: -entries.index(entry),
                lambda entry: entry[0], lambda entry: len(show_thing(entry)) % 3):
            self.assertEqual(house.entries(by=by), tuple(sorted(entries, key=by)))
        self.assertEqual(house.entries(), entries)
        self.assertRaises(TypeError, house.entries, size_of)

    def test_length_and_truth(self):
        self.assertEqual([len(House(ENTRIES[:k])) for k in range(5)], [0, 1, 2, 3, 4])

    def test_text(self):
        self.assertEqual(str(House()), "")
        self.assertEqual(str(House((SEVEN,))), show_thing(SEVEN))
        self.assertEqual(str(House((SEVEN, EIGHT))), show_thing(SEVEN) + "\n" + show_thing(EIGHT))

    def test_equality(self):
        one = House((SEVEN, EIGHT))
        self.assert_true(one == House((EIGHT, SEVEN), most=100))
        self.assert_false(one != House((EIGHT, SEVEN)))
        for other in (House(), House((SEVEN,)), House((SEVEN, EIGHT, WORKED)), House((SEVEN, WORKED)), *ANYTHING,
                (SEVEN, EIGHT), str(one)):
            self.assert_false(one == other)
            self.assert_true(one != other)
        self.assert_true(House() == House())
        self.assert_false(House() == ())


class TestHolding(Counted):
    def test_each_entry_alone(self):
        for entry in ENTRIES:
            house = House((entry,))
            self.assertIs(house.holds(entry[1]), needs(entry) == ())

    def test_needs_in_any_order(self):
        for entries in ((ALL, *PARTS), (*PARTS, ALL), (PARTS[0], ALL, PARTS[2], PARTS[1])):
            house = House(entries)
            self.assert_true(house.holds(RANGE))
            for at, entry in enumerate(PARTS):
                house.take(entry)
                self.assert_false(house.holds(RANGE))
                self.assert_house(house, house.entries())
                house.put(entry)

    def test_chain(self):
        for entries in (CHAIN, CHAIN[::-1]):
            house = House(entries)
            self.assertEqual(len(house.facts()), 20)
            house.take(CHAIN[10])
            self.assertEqual(len(house.facts()), 10)
            house.put(judged(CHAIN[10][1]))
            self.assertEqual(len(house.facts()), 20)
            self.assertEqual(house.facts(), rising_due(entry[1] for entry in CHAIN))
        self.assertEqual(House(CHAIN[1:]).facts(), ())

    def test_rings(self):
        for ring, rest in ((RING_OF_THREE, REST_OF_RING), (RING_OF_TWO, REST_OF_TWO), ((RING_OF_ONE,), SEVEN)):
            house = House(ring)
            self.assertEqual(house.facts(), ())
            house.put(rest)
            self.assertEqual(house.facts(), (rest[1],))
            outside = judged(ring[0][1])
            house.put(outside)
            self.assertEqual(set(house.facts()), {entry[1] for entry in ring} | {rest[1]})
            self.assert_house(house, (*ring, rest, outside))
            house.take(outside)
            self.assertEqual(house.facts(), (rest[1],))

    def test_several_grounds_taken_one_by_one(self):
        grounds = (judged(WIDER[0]), fact(WIDER[0], "each"), RING_OF_THREE[0], fact(WIDER[0], "judged", ("walk",)))
        house = House((EIGHT, *grounds))
        self.assert_true(house.holds(WIDER[0]))
        house.take(grounds[0])
        self.assert_true(house.holds(WIDER[0]))
        house.take(grounds[1])
        self.assert_false(house.holds(WIDER[0]))
        self.assertEqual(house.said(WIDER[0]), (grounds[2][2], grounds[3][2]))

    def test_claims_hold_up_facts(self):
        house = House((link(5),))
        self.assertEqual(house.facts(), ())
        house.put(WORKED)
        self.assertEqual((house.facts(), house.claims()), ((), (TURNED,)))
        house.put(same(5))
        self.assert_true(house.holds(link(5)[1]))
        wrong = ("claim", PASSED_ON, (1, 2))
        house.put(wrong)
        self.assert_false(house.holds(PASSED_ON))
        self.assertEqual(house.claims(), (TURNED,))

    def test_wrong_tables_hold_nothing_up(self):
        wrong = ("table", "many", (2, 2))
        house = House((fact(wrong, "judged", ("whole",)), fact(("prime", 1), "row", wrong, 1)))
        self.assertEqual(house.facts(), ())
        house.put(judged(("not", wrong)))
        self.assertEqual(house.facts(), (("not", wrong),))

    def test_more_never_makes_less_hold(self):
        chosen = random.Random(3)
        for _ in range(40):
            entries = chosen.sample(POOL, MANY)
            house = House()
            held = set()
            for entry in entries:
                house.put(entry)
                now = set(house.facts() + house.claims())
                self.assertLessEqual(held, now)
                held = now
            self.assert_house(house, entries)

    def test_what_holds_is_so(self):
        house = House()
        for entry in ENTRIES:
            if len(house) == MANY:
                house.back(0)
            house.put(entry)
            for what in house.facts():
                self.assertEqual(made(what, limit=99999)[0], "yes")


if __name__ == "__main__":
    unittest.main()
