"""Samples, what they miss, what is forged (23)."""

import itertools
import unittest

from surenumbers.kinds import WORDS
from surenumbers.samples import forged, missed, sample_holds
from surenumbers.tables import table_of
from tests.helpers import ANYTHING, ODD_THINGS, Kept
from tests.test_tables import RIGHT


def due_holds(word, size, places, sums, thing):
    """Point 23 word by word."""
    if type(thing) is not tuple or len(thing) != size or any(type(row) is not int for row in thing):
        return False
    right = RIGHT[word][:size]
    if any(thing[place - 1] != right[place - 1] for place in places):
        return False
    return all(sum(n ** power * (thing[n - 1] - right[n - 1]) for n in range(1, size + 1)) == 0 for power in range(sums))


def most_sums(word):
    return 0 if word == "least" else 8


def with_shift(rows, shifts):
    """The rows with so much more at some places."""
    return tuple(row + shifts.get(place, 0) for place, row in enumerate(rows, start=1))


# Places of a size, from none to all, by how many are left out at its end and amid it.
def some_places(size):
    full = tuple(range(1, size + 1))
    yield full
    yield ()
    yield full[:1]
    yield full[-1:]
    yield full[::2]
    for left in range(1, 11):
        if left < size:
            yield full[:-left]
            yield full[left:]
            yield full[:size // 2] + full[size // 2 + left:]


class TestSampleHolds(Kept):
    def test_the_right_table(self):
        for word in WORDS:
            for size in (1, 2, 9, 10, 57, 200):
                for places in some_places(size):
                    for sums in {0, 1, most_sums(word)} if word != "least" else {0}:
                        self.assert_true(sample_holds(word, size, places, sums, table_of(word, size)))

    def test_one_row_otherwise(self):
        for word in WORDS:
            right = table_of(word, 12)
            for places in ((), (3,), (1, 2, 12), tuple(range(1, 13)), (1, 5, 6, 7)):
                for sums in range(most_sums(word) + 1):
                    for place in range(1, 13):
                        for shift in (1, -1, 10 ** 39):
                            thing = with_shift(right, {place: shift})
                            told = sample_holds(word, 12, places, sums, thing)
                            self.assertIs(told, sums == 0 and place not in places)

    def test_rows_that_keep_the_sums(self):
        right = table_of("total", 20)
        two = with_shift(right, {5: 1, 9: -1})
        three = with_shift(right, {5: 1, 6: -2, 7: 1})
        nine = with_shift(right, dict(zip(range(4, 13), (1, -8, 28, -56, 70, -56, 28, -8, 1))))
        for thing, most in ((two, 1), (three, 2), (nine, 8)):
            for sums in range(9):
                self.assertIs(sample_holds("total", 20, (), sums, thing), sums <= most)
                self.assertIs(sample_holds("total", 20, (1, 2, 3), sums, thing), sums <= most)
                self.assert_false(sample_holds("total", 20, (5,), sums, thing))
                self.assert_false(sample_holds("total", 20, (1, 5, 20), sums, thing))
        self.assert_false(sample_holds("total", 20, (12,), 8, nine))
        self.assert_true(sample_holds("total", 20, (3, 13), 8, nine))

    def test_every_small_table(self):
        for word in ("many", "total"):
            right = RIGHT[word][:3]
            for shifts in itertools.product((-2, -1, 0, 1, 2), repeat=3):
                thing = tuple(row + shift for row, shift in zip(right, shifts))
                for many in range(4):
                    for places in itertools.combinations((1, 2, 3), many):
                        for sums in range(4):
                            due = due_holds(word, 3, places, sums, thing)
                            self.assertIs(sample_holds(word, 3, places, sums, thing), due)
                            unlike = [place for place in (1, 2, 3) if shifts[place - 1]]
                            if due and unlike:
                                self.assertGreater(len(unlike), sums)
                                self.assertLessEqual(set(unlike), set(missed(3, places, sums)))

    def test_what_is_no_such_table(self):
        for word in WORDS:
            right = table_of(word, 3)
            for places in ((), (1,), (1, 2, 3)):
                for thing in (right[:-1], right + (0,), right + (right[-1],), (), list(right), (right,), right[1:],
                        (True,) + right[1:], right[:2] + (str(right[2]),), right[:2] + (None,),
                        right[:2] + ((right[2],),), right[:2] + ([],)) + ANYTHING:
                    self.assert_false(sample_holds(word, 3, places, 0, thing))
            self.assert_true(sample_holds(word, 3, (2,), 0, right))
        for odd in ODD_THINGS:
            self.assert_false(sample_holds("many", 3, (), 0, (1, 2, odd)))
            self.assert_false(sample_holds("many", 1, (), 0, (odd,)))
        self.assert_true(sample_holds("many", 1, (1,), 8, (1,)))
        self.assert_false(sample_holds("many", 1, (1,), 8, (True,)))

    def test_by_names(self):
        self.assert_true(sample_holds(thing=(1, 2), sums=1, places=(2,), size=2, word="many"))
        for thing in ANYTHING + (table_of("many", 5), list(table_of("many", 5))):
            self.assert_kept(sample_holds, "many", 5, (1, 3), 8, thing)


class TestMissed(Kept):
    def test_every_small_one(self):
        for size in range(1, 7):
            full = tuple(range(1, size + 1))
            for many in range(size + 1):
                for places in itertools.combinations(full, many):
                    for sums in range(9):
                        left = tuple(place for place in full if place not in places)
                        self.assertEqual(missed(size, places, sums), left if len(left) > sums else ())

    def test_edges(self):
        full = tuple(range(1, 201))
        self.assertEqual(missed(200, full, 0), ())
        self.assertEqual(missed(200, full, 8), ())
        self.assertEqual(missed(200, (), 0), full)
        self.assertEqual(missed(200, (), 8), full)
        self.assertEqual(missed(200, full[:-1], 0), (200,))
        self.assertEqual(missed(200, full[:-1], 1), ())
        for sums in range(9):
            self.assertEqual(missed(200, full[:200 - sums], sums), ())
            self.assertEqual(missed(200, full[sums:], sums), ())
            self.assertEqual(missed(200, full[:199 - sums], sums), full[199 - sums:])
            self.assertEqual(missed(200, full[sums + 1:], sums), full[:sums + 1])
        self.assertEqual(missed(5, (2, 4), 2), (1, 3, 5))
        self.assertEqual(missed(5, (2, 4), 3), ())
        self.assertEqual(missed(1, (), 0), (1,))
        self.assertEqual(missed(1, (), 1), ())

    def test_by_names(self):
        self.assertEqual(missed(sums=0, size=3, places=(2,)), (1, 3))
        self.assert_kept(missed, 9, (1, 4), 3)


class TestForged(Kept):
    def assert_forged(self, word, size, places, sums):
        thing = forged(word, size, places, sums)
        open_places = missed(size, places, sums)
        if open_places == ():
            self.assertIsNone(thing)
            return
        self.assertIsInstance(thing, tuple)
        self.assert_true(sample_holds(word, size, places, sums, thing))
        self.assertTrue(due_holds(word, size, places, sums, thing))
        unlike = [place for place in range(1, size + 1) if thing[place - 1] != RIGHT[word][place - 1]]
        self.assertEqual(len(unlike), sums + 1)
        self.assertLessEqual(set(unlike), set(open_places))

    def test_every_small_one(self):
        for word in WORDS:
            for size in range(1, 6):
                for many in range(size + 1):
                    for places in itertools.combinations(range(1, size + 1), many):
                        for sums in range(most_sums(word) + 1):
                            self.assert_forged(word, size, places, sums)

    def test_greater_ones(self):
        for word in WORDS:
            for size in (9, 10, 11, 57, 200):
                for places in some_places(size):
                    for sums in range(most_sums(word) + 1):
                        self.assert_forged(word, size, places, sums)

    def test_far_apart(self):
        for sums in range(9):
            gaps = {1, 200, 100, 3, 197, 50, 151, 29, 83}
            self.assert_forged("total", 200, tuple(place for place in range(1, 201) if place not in gaps), sums)

    def test_by_names(self):
        self.assertIsNone(forged(sums=1, places=(2,), size=2, word="many"))
        self.assertIsNotNone(forged(sums=0, places=(2,), size=2, word="many"))
        self.assert_kept(forged, "total", 30, (1, 2, 5), 8)


if __name__ == "__main__":
    unittest.main()
