"""Certificates of table (15, 23)."""

import itertools
import unittest

from surenumbers.kinds import WORDS
from surenumbers.samples import forged
from surenumbers.tablechecks import table_denies, table_made, table_shows
from surenumbers.tables import table_of
from tests.helpers import ANYTHING, ODD_THINGS, Judged, has_form
from tests.test_samples import due_holds, most_sums, with_shift
from tests.test_tables import RIGHT

WHOLE = ("whole",)


def due_yes(statement, thing):
    """Point 15 word by word, for yes."""
    word, rows = statement[1:]
    size = len(rows)
    if has_form(thing, WHOLE):
        return list(rows) == RIGHT[word][:size]
    if not has_form(thing, ("sample", [int], int)):
        return False
    places, sums = thing[1:]
    if list(places) != sorted(set(places)) or not all(1 <= place <= size for place in places):
        return False
    if not 0 <= sums <= most_sums(word) or size - len(places) > sums:
        return False
    return due_holds(word, size, places, sums, rows)


def due_no(statement, thing):
    word, rows = statement[1:]
    if not has_form(thing, ("wrong", int)):
        return False
    return 1 <= thing[1] <= len(rows) and rows[thing[1] - 1] != RIGHT[word][thing[1] - 1]


class TestTableChecks(Judged):
    shows = staticmethod(table_shows)
    denies = staticmethod(table_denies)
    made = staticmethod(table_made)

    def test_made(self):
        for word in WORDS:
            for size in (1, 2, 3, 50, 199, 200):
                right = table_of(word, size)
                self.assertEqual(self.assert_made(("table", word, right), True)[0], "whole")
                for place in {1, 2, size // 2, size - 1, size} & set(range(1, size + 1)):
                    for shift in (1, -1, -right[place - 1], 10 ** 39, -(10 ** 500)):
                        thing = self.assert_made(("table", word, with_shift(right, {place: shift})), False)
                        self.assertEqual(thing, ("wrong", place))
                self.assert_made(("table", word, tuple(-row for row in right)), False)
                self.assert_made(("table", word, (0,) * size), False)

    def test_other_words(self):
        for one in WORDS:
            for other in WORDS:
                for size in (1, 2, 3, 20):
                    same = RIGHT[one][:size] == RIGHT[other][:size]
                    self.assert_made(("table", other, table_of(one, size)), same)

    def test_spoilt(self):
        for statement, things in (
            (("table", "many", (1, 2, 2, 3)), (WHOLE, ("sample", (1, 2, 3, 4), 0), ("sample", (1, 4), 2),
                    ("sample", (), 4), ("sample", (2,), 8))),
            (("table", "total", (1, 3, 4, 8)), (("wrong", 4), WHOLE, ("sample", (1, 2, 3), 1), ("sample", (4,), 3))),
            (("table", "least", (1, 2, 3, 2)), (WHOLE, ("sample", (1, 2, 3, 4), 0))),
            (("table", "least", (1, 2, 3, 4)), (("wrong", 4), WHOLE, ("sample", (1, 2, 3, 4), 0))),
        ):
            for thing in things:
                self.assert_as_due(statement, thing, due_yes, due_no)

    def test_whole(self):
        self.assert_yes(("table", "many", (1,)), WHOLE)
        self.assert_neither(("table", "many", (2,)), WHOLE)
        self.assert_neither(("table", "many", (1, 2, 3)), WHOLE)
        for thing in (("whole", 0), ["whole"], "whole", ("wholes",), (("whole",),)):
            self.assert_neither(("table", "many", (1,)), thing)

    def test_every_small_sample(self):
        tables = [("table", word, tuple(row + shift for row, shift in zip(RIGHT[word], shifts))) for word in WORDS
                for shifts in ((0, 0, 0), (1, 0, 0), (0, 1, -1), (1, -2, 1), (0, 0, -1))]
        places = [places for many in range(4) for places in itertools.product(range(-1, 5), repeat=many)]
        for statement in tables:
            for thing in itertools.product(("sample",), places, (-1, 0, 1, 2, 3, 8, 9)):
                told = self.is_yes(statement, thing)
                self.assertIs(told, due_yes(statement, thing))
                self.assertLessEqual(told, list(statement[2]) == RIGHT[statement[1]][:3])

    def test_samples(self):
        full = tuple(range(1, 201))
        for word in WORDS:
            statement = ("table", word, table_of(word, 200))
            for sums in range(-1, 10):
                is_sum = 0 <= sums <= most_sums(word)
                self.assertIs(self.is_yes(statement, ("sample", full, sums)), is_sum)
                for left in range(1, 11):
                    for places in (full[left:], full[:-left]):
                        self.assertIs(self.is_yes(statement, ("sample", places, sums)), is_sum and left <= sums)
            for places in (full[::-1], full[:100] + full[99:], (0,) + full, full + (201,), full[1:] + (1,), list(full),
                    (True,) + full[1:], full[:-1] + ("200",), full[:-1] + ((200,),), None, 200, full + full, ()):
                self.assert_neither(statement, ("sample", places, 0))
            for sums in ODD_THINGS + ((0,), "0"):
                self.assert_neither(statement, ("sample", full, sums))
        for thing in (("sample", full), ("sample", full, 0, 0), ["sample", full, 0], ("samples", full, 0),
                ("sample", 0, full), ("sample", (full, 0))):
            self.assert_neither(("table", "many", table_of("many", 200)), thing)

    def test_where_something_is_missed(self):
        for word in WORDS:
            for sums in range(most_sums(word) + 1):
                right = ("table", word, table_of(word, 20))
                places = tuple(range(1, 20 - sums))
                self.assert_neither(right, ("sample", places, sums))
                self.assert_yes(right, ("sample", places + (20,), sums))
                wrong = ("table", word, forged(word, 20, places, sums))
                self.assert_neither(wrong, ("sample", places, sums))
                self.assert_neither(wrong, ("sample", places + (20,), sums))
                self.assert_neither(wrong, WHOLE)
                self.assert_made(wrong, False)

    def test_wrong(self):
        statement = ("table", "many", (2, 2, 2, 4, 2))
        self.assertEqual([n for n in range(-6, 8) if self.is_no(statement, ("wrong", n))], [1, 4])
        self.assertEqual([n for n in range(-6, 8) if self.is_no(("table", "many", (1, 2, 2, 3, 3)), ("wrong", n))], [5])
        for n in range(-6, 8):
            self.assert_neither(("table", "many", (1, 2, 2, 3, 2)), ("wrong", n))
        for odd in ODD_THINGS + ((1,), 10 ** 39):
            self.assert_neither(statement, ("wrong", odd))
        for thing in (("wrong",), ("wrong", 1, 1), ["wrong", 1], ("wrongs", 1)):
            self.assert_neither(statement, thing)

    def test_other_forms(self):
        for thing in ANYTHING:
            for statement in (("table", "many", (1, 2)), ("table", "least", (2, 2))):
                self.assert_neither(statement, thing)

    def test_of_what_is_no_statement(self):
        wrong = (("table", "many", (True,)), ("table", "many", [1]), ("table", "most", (1,)), ["table", "many", (1,)],
                ("not", ("table", "many", (1,))), ("table", "many"), ("table", ["many"], (1,)), ("table", "many", ()),
                ("table", "many", (1,), 0), ("prime", 2), None, ("table", "many", ("1",)),
                ("table", "many", tuple(RIGHT["many"][:201])))
        for thing in (WHOLE, ("sample", (1,), 0)):
            self.assert_only_statements(("table", "many", (1,)), wrong, thing)
        self.assert_only_statements(("table", "many", (0,)), (("table", "many", (False,)), ("table", "most", (0,)),
                ("not", ("table", "many", (0,))), ("table", "many", (0,) * 201)), ("wrong", 1))

    def test_by_names(self):
        for statement in (("table", "many", table_of("many", 200)), ("table", "least", (1, 2, 3, 4)),
                ("table", "total", (-1, 10 ** 500))):
            self.assert_by_names(statement)


if __name__ == "__main__":
    unittest.main()
