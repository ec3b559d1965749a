"""Two houses: what holds in just one, and both in one (25)."""

import random
import unittest

from surenumbers.errors import Full, TooLong
from surenumbers.houses import House
from surenumbers.kinds import MANY, MOST
from surenumbers.things import show_thing, size_of
from surenumbers.twohouses import both, differing
from tests.entries import PLAIN, RANGE, RING_OF_THREE, SQUARED, TURNED, fact, same
from tests.test_houses import ALL, EIGHT, PARTS, POOL, SEVEN, WORKED, Counted, full_house, holding_due


class TestDiffering(Counted):
    def assert_differing(self, one, other, due):
        for told in (differing(one, other), differing(other, one)):
            self.assertIs(type(told), tuple)
            self.assertEqual(told, tuple(due))

    def test_alike(self):
        for entries in ((), (SEVEN,), (*PARTS, ALL), RING_OF_THREE):
            self.assert_differing(House(entries), House(entries[::-1]), ())
            house = House(entries)
            self.assert_differing(house, house, ())

    def test_by_other_grounds(self):
        second = fact(EIGHT[1], "judged", ("witness", 3))
        self.assert_differing(House((EIGHT,)), House((second,)), ())

    def test_either_way_about(self):
        one = House((SEVEN, same(9), WORKED, same(1)))
        other = House((same(10), same(1), ("claim", PLAIN, ()), ("claim", SQUARED, (1,)), ALL))
        due = sorted((SEVEN[1], same(9)[1], TURNED, same(10)[1], PLAIN), key=show_thing)
        self.assert_differing(one, other, due)
        self.assertLess(due.index(("same", 10, 10)), due.index(("same", 9, 9)))
        self.assert_differing(House(), one, sorted(one.facts() + one.claims(), key=show_thing))

    def test_by_a_need(self):
        self.assert_differing(House((*PARTS, ALL)), House((ALL, *PARTS[:2])), (RANGE, PARTS[2][1]))

    def test_walks(self):
        chosen = random.Random(4)
        for _ in range(30):
            houses = [House(tuple(chosen.sample(POOL, chosen.randrange(MANY + 1)))) for _ in range(2)]
            held = [set(holding_due(house.entries())) for house in houses]
            self.assert_differing(*houses, sorted(held[0] ^ held[1], key=show_thing))

    def test_by_names(self):
        self.assertEqual(differing(other=House((SEVEN,)), one=House()), (SEVEN[1],))


class TestBoth(Counted):
    def test_entries(self):
        for one, other in (((), ()), ((SEVEN,), ()), ((), (SEVEN,)), ((SEVEN, EIGHT), (WORKED, SEVEN, ALL)),
                (PARTS, PARTS[::-1]), ((ALL,), PARTS)):
            houses = House(one), House(other)
            due = one + tuple(entry for entry in other if entry not in one)
            house = both(*houses)
            self.assert_house(house, due)
            self.assertEqual((house.looks(), house.log()), (len(due), (0, 0)))
            for many in range(len(due), -1, -1):
                house.back(many)
                self.assert_house(house, due[:many])
            self.assert_house(houses[0], one)
            self.assert_house(houses[1], other)

    def test_full(self):
        full = full_house()
        self.assertEqual(both(full, full), full)
        self.assertEqual(both(full, House(full.entries()[3:7])), full)
        self.assertEqual(self.refused(Full, both, full, House((SEVEN,))).many, MANY)
        self.assertEqual(self.refused(Full, both, House((SEVEN,)), full).many, MANY)

    def test_too_long(self):
        size = size_of(SEVEN)
        one, other = House((EIGHT,)), House((SEVEN,))
        self.assert_house(both(one, other, most=size), (EIGHT, SEVEN))
        for houses in ((one, other), (other, one), (other, other)):
            self.assertEqual(self.refused(TooLong, both, *houses, most=size - 1).size, size)
        long = ("claim", PLAIN, (1,) * MOST)
        great = House((long,), most=10 ** 6)
        self.assertEqual(self.refused(TooLong, both, one, great).size, size_of(long))
        self.assert_house(both(great, one, most=10 ** 6), (long, EIGHT))

    def test_nothing_is_shared(self):
        one, other = House((SEVEN,)), House((EIGHT,))
        house = both(other=other, one=one)
        house.take(SEVEN)
        house.put(WORKED)
        one.put(ALL)
        self.assert_house(house, (EIGHT, WORKED))
        self.assert_house(one, (SEVEN, ALL))
        self.assert_house(other, (EIGHT,))
        self.assertRaises(TypeError, both, one, other, 100)


if __name__ == "__main__":
    unittest.main()
