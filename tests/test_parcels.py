"""Facts led from house to house, with all that they need (26)."""

import unittest

from surenumbers.errors import Busy, Full, NoParcel, NotHeld, TooLong, Undone
from surenumbers.grounds import is_entry
from surenumbers.houses import House
from surenumbers.kinds import MANY
from surenumbers.parcels import fetched, led
from surenumbers.things import size_of
from surenumbers.whys import why_holds
from tests.entries import (CHAIN, HOPELESS, PASSED_ON, RANGE, REST_OF_RING, RING_OF_ONE, RING_OF_THREE, TURNED, WIDER,
        fact, judged, link, same)
from tests.helpers import ANYTHING, spoilt
from tests.test_houses import ALL, EIGHT, PARTS, SEVEN, WORKED, Counted, full_house

HOUSES = (
    (), (SEVEN,), (WORKED, same(5), link(5)), (ALL, *PARTS, SEVEN), CHAIN, CHAIN[::-1], (*RING_OF_THREE, REST_OF_RING),
    (*RING_OF_THREE, REST_OF_RING, judged(WIDER[0])), tuple(HOPELESS[:MANY]),
    (EIGHT, fact(WIDER[0], "each"), judged(WIDER[0]), fact(EIGHT[1], "at", WIDER[0], 8)),
)


class TestLed(Counted):
    def test_each_thing_that_holds(self):
        for entries in HOUSES:
            house = House(entries)
            for what in house.facts() + house.claims():
                parcel = led(house, what)
                self.assert_true(why_holds(house, what, parcel))
                other = House()
                self.assertEqual(fetched(other, parcel), len(parcel))
                self.assert_house(other, parcel)
                for entry in parcel:
                    self.assert_true(other.holds(entry[1]))
                self.assertEqual((other.looks(), other.log()), (len(parcel), (1, 1)))
            self.assert_house(house, entries)
            self.assertEqual(house.log(), (0, 0))

    def test_not_held(self):
        house = House((SEVEN, ALL, RING_OF_ONE, HOPELESS[0], WORKED))
        for thing in (*ANYTHING, RANGE, ("prime", 9), PASSED_ON, SEVEN, ["prime", 7], ("prime", True), (),
                ("same", True, True), *[what for what in spoilt(SEVEN[1]) if repr(what) != repr(SEVEN[1])]):
            self.assertEqual(repr(self.refused(NotHeld, led, house, thing).what), repr(thing))
        self.assertEqual(led(what=TURNED, house=house), (WORKED,))

    def test_not_held_with_a_truth(self):
        house = House((same(1),))
        self.assertEqual(led(house, ("same", 1, 1)), (same(1),))
        self.refused(NotHeld, led, house, ("same", 1, True))


class TestFetched(Counted):
    def test_where_a_part_is(self):
        parcel = led(House((*PARTS, ALL)), RANGE)
        for many in range(len(parcel) + 1):
            for there in (parcel[:many], parcel[many:], parcel[many:many + 1]):
                house = House((SEVEN, *there))
                self.assertEqual(fetched(house, parcel), len(parcel) - len(there))
                new = tuple(entry for entry in parcel if entry not in there)
                self.assert_house(house, (SEVEN, *there, *new))
                self.assert_true(house.holds(RANGE))
                self.assertEqual(house.log(), (1, 1))
                house.back(1 + len(there))
                self.assert_house(house, (SEVEN, *there))

    def test_at_itself(self):
        house = House(CHAIN)
        self.assertEqual(fetched(house, led(house, CHAIN[-1][1])), 0)
        self.assert_house(house, CHAIN)
        self.assertEqual((house.log(), house.looks()), ((1, 1), MANY))

    def test_the_empty_parcel(self):
        house = House((SEVEN,))
        told = fetched(house, ())
        self.assertEqual(repr(told), "0")
        self.assertEqual(house.log(), (1, 1))

    def test_any_parcel(self):
        # More than a paper may be in it, if each need is said ahead.
        house = House()
        self.assertEqual(fetched(parcel=(SEVEN, *PARTS, ALL, WORKED, EIGHT)[:-1], house=house), 6)
        self.assertEqual(fetched(house, (EIGHT, fact(EIGHT[1], "judged", ("witness", 3)))), 1)
        self.assertEqual(repr(fetched(house, (same(1),))), "1")

    def test_no_parcel(self):
        house = House((*PARTS, SEVEN))
        before = house.entries()
        right = (*PARTS, ALL)
        wrong = [
            *[thing for thing in ANYTHING if thing != ()], list(right), (ALL,), (ALL, *PARTS), right[1:],
            right + right[-1:], right[:1] + right, right + (5,), right + (None,), (*PARTS, list(ALL)), right + ((),),
            right + (("fact", RANGE),), right + (HOPELESS[0],), (HOPELESS[6], *right), (RING_OF_ONE,), RING_OF_THREE,
            right + (RANGE,), RANGE, (*PARTS, ["fact", RANGE, ("each",)]), (PARTS[0], ALL, PARTS[1], PARTS[2]),
            right + (fact(("same", True, 1), "judged", ("walk",)),), (WORKED, link(5)), (same(5), link(5)), SEVEN,
        ]
        for thing in wrong:
            self.refused(NoParcel, fetched, house, thing)
        self.assert_house(house, before)
        self.assertEqual((house.log(), house.looks()), ((0, 0), 4))

    def test_spoilt_parcels(self):
        parcel = led(House((WORKED, same(5), link(5))), link(5)[1])
        for thing in spoilt(parcel):
            house = House()
            try:
                many = fetched(house, thing)
            except NoParcel:
                self.assert_house(house, ())
            else:
                self.assertTrue(all(is_entry(entry) for entry in thing))
                self.assert_house(house, thing)
                self.assertEqual(many, len(thing))
                for entry in thing:
                    self.assert_true(house.holds(entry[1]))

    def test_full(self):
        house = full_house()
        house.take(same(0))
        before = house.entries()
        error = self.refused(Undone, fetched, house, (same(1), SEVEN, same(2), EIGHT))
        self.assertEqual((error.place, type(error.__cause__), error.__cause__.many), (3, Full, MANY))
        self.assert_house(house, before)
        self.assertEqual((house.log(), house.looks()), ((2, 2), MANY + 1))
        self.assertEqual(fetched(house, (same(1), SEVEN, same(2))), 1)

    def test_too_long(self):
        parcel = (*PARTS, ALL, SEVEN)
        most = size_of(SEVEN) - 1
        house = House(most=most)
        error = self.refused(Undone, fetched, house, parcel)
        self.assertEqual((error.place, type(error.__cause__), error.__cause__.size), (4, TooLong, most + 1))
        self.assert_house(house, ())
        long = ("claim", ((), (), (0, 0)), ())
        self.assertEqual(self.refused(Undone, fetched, House(most=0), (long,)).place, 0)

    def test_busy(self):
        house = House((SEVEN,))
        met = []

        def look(told):
            met.append(self.refused(NoParcel, fetched, told, 5))
            met.append(self.refused(Busy, fetched, told, (EIGHT,)))
            met.append(self.refused(Busy, fetched, told, ()))
            self.assertEqual(led(told, SEVEN[1]), (SEVEN,))

        house.together((("put", EIGHT), ("put", WORKED)), look=look)
        self.assertEqual((len(met), house.log()), (6, (5, 5)))
        self.assert_house(house, (SEVEN, EIGHT, WORKED))

    def test_what_is_handed_in_stays(self):
        parcel = [*PARTS, ALL]
        self.refused(NoParcel, fetched, House(), parcel)
        self.assertEqual(parcel, [*PARTS, ALL])


if __name__ == "__main__":
    unittest.main()
