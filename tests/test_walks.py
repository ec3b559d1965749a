"""Certificates of same, below, row, count (7)."""

import unittest

from surenumbers.walks import walk_denies, walk_made, walk_shows
from tests.helpers import ANYTHING, Judged

WALK = ("walk",)
BOUND = 10 ** 120
GREAT = 10 ** 12


def quotients(a, b):
    return () if b == 0 else (a // b,) + quotients(b, a % b)


class Walked(Judged):
    shows = staticmethod(walk_shows)
    denies = staticmethod(walk_denies)
    made = staticmethod(walk_made)

    def assert_so(self, statement):
        self.assert_yes(statement, WALK)
        self.assert_false(walk_denies(statement, WALK))
        self.assertEqual(self.assert_made(statement, True), WALK)

    def assert_not_so(self, statement):
        self.assert_no(statement, WALK)
        self.assert_false(walk_shows(statement, WALK))
        self.assertEqual(self.assert_made(statement, False), WALK)


class TestTerms(Walked):
    def test_small_numbers(self):
        for one in range(-4, 5):
            for other in range(-4, 5):
                (self.assert_so if one == other else self.assert_not_so)(("same", one, other))
                (self.assert_so if one < other else self.assert_not_so)(("below", one, other))

    def test_terms(self):
        self.assert_so(("same", ("sum", 2, 2), ("times", 2, 2)))
        self.assert_so(("same", ("power", 0, 0), 1))
        self.assert_so(("same", ("less", 5, 7), -2))
        self.assert_not_so(("same", ("less", 5, 7), 2))
        self.assert_so(("below", ("power", -3, 3), 0))
        self.assert_not_so(("below", ("power", -3, 2), 0))

    def test_great_terms(self):
        top = BOUND - 1
        self.assert_so(("same", top, top))
        self.assert_not_so(("same", top, -top))
        self.assert_so(("below", -top, top))
        self.assert_not_so(("below", top, -top))
        self.assert_so(("below", ("less", top, 1), top))
        self.assert_not_so(("below", top, top))
        self.assert_so(("same", ("times", 10 ** 60, 10 ** 59), ("times", ("power", 10, 59), ("power", 10, 60))))


class TestRows(Walked):
    def test_right_rows(self):
        self.assert_so(("row", 7, 3, (2, 3)))
        self.assert_so(("row", 0, 1, (0,)))
        self.assert_so(("row", 0, 5, (0,)))
        self.assert_so(("row", 3, 7, (0, 2, 3)))
        self.assert_so(("row", 6, 3, (2,)))
        self.assert_so(("row", GREAT, 1, (GREAT,)))
        self.assert_so(("row", 1, GREAT, (0, GREAT)))
        self.assert_so(("row", 1393, 972, quotients(1393, 972)))

    def test_wrong_rows(self):
        for a in range(0, 40):
            for b in range(1, 40):
                right = quotients(a, b)
                self.assert_so(("row", a, b, right))
                wrong = [right[:-1], right + (1,), right + (0,), (0,) + right, right[:-1] + (right[-1] + 1,), right[1:]]
                # The last quotient in two parts has the same worth as a fraction, but it is not how the division goes.
                wrong.append(right[:-1] + (right[-1] - 1, 1))
                wrong.append(tuple(-part for part in right) + (1,))
                for parts in wrong:
                    self.assert_not_so(("row", a, b, parts))

    def test_no_parts(self):
        self.assert_not_so(("row", 0, 1, ()))
        self.assert_not_so(("row", 5, 7, ()))

    def test_parts_below_0(self):
        self.assert_not_so(("row", 7, 3, (-2, -3)))
        self.assert_not_so(("row", 7, 3, (3, -2)))


class TestCounts(Walked):
    def test_counts(self):
        many = 0
        for number in range(2001):
            if number > 1 and all(number % d for d in range(2, number) if d * d <= number):
                many += 1
            if number < 120 or number % 97 == 0 or number > 1990:
                self.assert_so(("count", number, many))
                self.assert_not_so(("count", number, many + 1))
                if many > 0:
                    self.assert_not_so(("count", number, many - 1))

    def test_edges(self):
        self.assert_so(("count", 0, 0))
        self.assert_so(("count", 1, 0))
        self.assert_so(("count", 2, 1))
        self.assert_so(("count", 2000, 303))
        self.assert_not_so(("count", 2000, 304))
        self.assert_not_so(("count", 2000, GREAT))


class TestWalk(Walked):
    def test_nothing_else_is_let_by(self):
        others = ANYTHING + (("walk", 1), ("walk", ()), ["walk"], "walk", ("walks",), ("walk", "walk"), (WALK,),
                ("whole",), ("few",), ())
        for statement in (("same", 1, 1), ("same", 1, 2), ("below", 1, 2), ("row", 7, 3, (2, 3)), ("count", 5, 3),
                ("count", 5, 4)):
            for thing in others:
                self.assert_neither(statement, thing)

    def test_of_what_is_no_statement(self):
        wrong = (
            ("same", True, 1), ("same", 1, BOUND), ("same", 1), ("same", 1, 1, 1), ["same", 1, 1],
            ("not", ("same", 1, 1)),
            ("below", False, 1), ("row", 7, 3, (2, True)), ("row", 7, 3, [2, 3]), ("row", True, 1, (1,)),
            ("row", 5, 0, ()),
            ("count", True, 0), ("count", 1, False), ("count", 2001, 303), ("prime", 5), ("prime", 4),
            ("divides", 2, 4), None, (), "same",
            ("all", 1, 2, ("same", "n", "n")), ("same", "n", "n"),
        )
        self.assert_only_statements(("same", 1, 1), wrong, WALK)

    def test_by_names(self):
        for statement in (("same", 1, ("sum", 0, 1)), ("below", 2, 1), ("row", 7, 3, (2, 3)), ("count", 10, 5)):
            self.assert_by_names(statement)


if __name__ == "__main__":
    unittest.main()
