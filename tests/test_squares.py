"""Certificates of squares (9, 13)."""

import itertools
import unittest

from surenumbers.chains import chain_of
from surenumbers.squares import squares_deny, squares_made, squares_show
from tests.helpers import ANYTHING, ODD_THINGS, Judged, has_form, is_right_chain

TOP = 99999
ROOTS = range(317)
TWO = {a * a + b * b for a in ROOTS for b in ROOTS}
THREE = {a * a + two for a in ROOTS for two in TWO if a * a + two <= TOP}
SUMS = {2: TWO, 3: THREE, 4: range(TOP + 1)}


def due_yes(statement, thing):
    k, n = statement[1:]
    if not has_form(thing, ("roots", [int])) or len(thing[1]) != k:
        return False
    xs = thing[1]
    return min(xs) >= 0 and all(one <= other for one, other in zip(xs, xs[1:])) and sum(x * x for x in xs) == n


def due_no(statement, thing):
    """Point 13 word by word, for no."""
    k, n = statement[1:]
    if k == 2 and type(thing) is tuple and len(thing) == 5 and has_form(thing[:4], ("once", int, int, int)):
        word, p, e, q, rows = thing
        if e % 2 == 0 or not 1 <= e <= 129 or q < 1 or p % 4 != 3 or not is_right_chain(rows):
            return False
        return p in [row[0] for row in rows] and q % p != 0 and n == p ** e * q
    if k == 3 and has_form(thing, ("seven", int, int)):
        word, e, q = thing
        return 0 <= e <= 60 and q >= 0 and n == 4 ** e * (8 * q + 7)
    return False


class TestSquares(Judged):
    shows = staticmethod(squares_show)
    denies = staticmethod(squares_deny)
    made = staticmethod(squares_made)

    def assert_all_due(self, statement, is_so):
        thing = self.assert_made(statement, is_so)
        self.assert_as_due(statement, thing, due_yes, due_no)
        return thing

    def test_every_small_one(self):
        for n in list(range(2000)) + list(range(99000, 100000, 3)) + [TOP]:
            for k in (2, 3, 4):
                thing = self.assert_made(("squares", k, n), n in SUMS[k])
                if thing[0] == "once":
                    self.assertLessEqual(len(thing[4]), thing[1].bit_length())

    def test_each_number_has_the_right_side(self):
        for n in range(0, 100000, 7):
            for k in (2, 3, 4):
                self.assertEqual(squares_made(("squares", k, n))[0], "yes" if n in SUMS[k] else "no")

    def test_edges(self):
        for n in (0, 1, 2, 3, 4, 7, 15, 28, 60, 112, 240, 3 ** 3, 3 ** 9, 7 ** 5, 9, 49, 13, 13 * 13, 11, 121, 4 ** 8,
                7 * 4 ** 6, TOP, 99991, 99989):
            for k in (2, 3, 4):
                self.assert_all_due(("squares", k, n), n in SUMS[k])

    def test_roots(self):
        self.assertEqual([xs for xs in itertools.product(range(-6, 7), repeat=2) if self.is_yes(("squares", 2, 25),
                ("roots", xs))], [(0, 5), (3, 4)])
        self.assertEqual([xs for xs in itertools.product(range(-4, 5), repeat=3) if self.is_yes(("squares", 3, 9),
                ("roots", xs))], [(0, 0, 3), (1, 2, 2)])
        self.assertEqual([xs for xs in itertools.product(range(-2, 3), repeat=4) if self.is_yes(("squares", 4, 4),
                ("roots", xs))], [(0, 0, 0, 2), (1, 1, 1, 1)])
        for k in (2, 3, 4):
            self.assert_yes(("squares", k, 0), ("roots", (0,) * k))
            for many in (0, 1, k - 1, k + 1):
                self.assert_neither(("squares", k, 0), ("roots", (0,) * many))
            self.assert_neither(("squares", k, 0), ("roots", (False,) + (0,) * (k - 1)))
            self.assert_neither(("squares", k, 0), ("roots", [0] * k))
            self.assert_neither(("squares", k, 1), ("roots", (0,) * (k - 1) + (True,)))
            self.assert_neither(("squares", k, 1), ("roots", (-1,) + (0,) * (k - 1)))
            self.assert_neither(("squares", k, 1), ("roots", (1,) + (0,) * (k - 1)))
            for odd in ODD_THINGS:
                self.assert_neither(("squares", k, 0), ("roots", odd))
                self.assert_neither(("squares", k, 0), ("roots", (0,) * (k - 1) + (odd,)))
        for thing in (("roots",), ("roots", 3, 4), ("roots", (3, 4), 0), ["roots", (3, 4)], ("root", (3, 4)), (3, 4),
                ("roots", (4, 3)), ("roots", (-3, 4)), ("roots", (-4, -3)), ("roots", (3, 5)), ("roots", (0, 3, 4)),
                ("roots", (3, 10 ** 39))):
            self.assert_neither(("squares", 2, 25), thing)

    def test_once(self):
        n = 3 ** 3 * 20
        statement = ("squares", 2, n)
        rows = chain_of((3,))
        self.assert_no(statement, ("once", 3, 3, 20, rows))
        self.assert_no(statement, ("once", 3, 3, 20, chain_of((3, 5, 7))))
        for p, e, q in itertools.product((-3, 0, 1, 2, 3, 5, 7, 27), range(-2, 6), (-20, 0, 1, 20, 60, 180, 540)):
            thing = ("once", p, e, q, chain_of((3, 5, 7)))
            self.assertIs(self.is_no(statement, thing), (p, e, q) == (3, 3, 20))
        # p of no row, rows that are no chain, and what is no such form.
        for spoilt_rows in ((), chain_of((5,)), rows * 2, list(rows), rows[0], None, ((3, 1, ((2, 1),)),),
                ((3, 2, ()),), chain_of((3, 5))[::-1]):
            self.assert_neither(statement, ("once", 3, 3, 20, spoilt_rows))
        for thing in (("once", 3, 3, 20), ("once", 3, 3, 20, rows, 0), ["once", 3, 3, 20, rows],
                ("ones", 3, 3, 20, rows), ("once", 3, 3, (20,), rows)):
            self.assert_neither(statement, thing)
        for odd in ODD_THINGS + ((3,), 10 ** 39):
            self.assert_neither(statement, ("once", odd, 3, 20, rows))
            self.assert_neither(statement, ("once", 3, odd, 20, rows))
            self.assert_neither(statement, ("once", 3, 3, odd, rows))
            self.assert_neither(statement, ("once", 3, 3, 20, odd))

    def test_e(self):
        rows = chain_of((3, 7))
        self.assert_no(("squares", 2, 3), ("once", 3, 1, 1, rows))
        self.assert_neither(("squares", 2, 3), ("once", 3, True, 1, rows))
        self.assert_neither(("squares", 2, 3), ("once", 3, 1, True, rows))
        self.assert_neither(("squares", 2, 9), ("once", 3, 2, 1, rows))
        self.assert_neither(("squares", 2, 9), ("once", 3, 1, 3, rows))
        self.assert_neither(("squares", 2, 1), ("once", 3, 0, 1, rows))
        self.assert_neither(("squares", 2, 3), ("once", 3, -1, 9, rows))
        self.assert_neither(("squares", 2, 0), ("once", 3, 1, 0, rows))
        for e in (-1, 127, 128, 129, 130, 131):
            for n in (0, 1, 3, 99999):
                self.assert_neither(("squares", 2, n), ("once", 3, e, 1, rows))
                self.assert_neither(("squares", 2, n), ("once", 3, e, 0, rows))
        self.assert_no(("squares", 2, 3 ** 9), ("once", 3, 9, 1, rows))
        self.assert_neither(("squares", 2, 3 ** 9), ("once", 3, 7, 9, rows))

    def test_p_of_another_rest(self):
        # 5 has the rest 1 by 4, 2 the rest 2: both may stand an odd number of times.
        self.assert_neither(("squares", 2, 5), ("once", 5, 1, 1, chain_of((5,))))
        self.assert_neither(("squares", 2, 2), ("once", 2, 1, 1, chain_of((3, 5))))
        self.assert_neither(("squares", 2, 13), ("once", 13, 1, 1, chain_of((13,))))
        # 15 has the rest 3 by 4, but is no prime: no chain has a row of it.
        self.assert_neither(("squares", 2, 15), ("once", 15, 1, 1, chain_of((3, 5, 7))))
        self.assert_neither(("squares", 2, 15), ("once", 15, 1, 1, chain_of((3, 5)) + ((15, 2, ((2, 1), (7, 1))),)))
        self.assert_no(("squares", 2, 15), ("once", 3, 1, 5, chain_of((3,))))
        self.assert_made(("squares", 2, 99991), False)
        self.assert_no(("squares", 2, 99991), ("once", 99991, 1, 1, chain_of((99991,))))

    def test_seven(self):
        for n in (7, 15, 23, 28, 60, 112, 7 * 4 ** 6, 15 * 4 ** 6, 99999):
            statement = ("squares", 3, n)
            for e, q in itertools.product(range(-2, 9), list(range(-3, 12)) + [12499, 12500]):
                thing = ("seven", e, q)
                self.assertIs(self.is_no(statement, thing), e >= 0 and q >= 0 and 4 ** e * (8 * q + 7) == n)
        for e in (-1, 0, 59, 60, 61):
            for q in (-1, 0, 1):
                for n in (0, 1, 3, 28, 99999):
                    self.assert_neither(("squares", 3, n), ("seven", e, q))
        self.assert_no(("squares", 3, 7), ("seven", 0, 0))
        for thing in (("seven", False, 0), ("seven", 0, False), ("seven", 0), ("seven", 0, 0, 0), ["seven", 0, 0],
                ("sevens", 0, 0), ("seven", (0, 0)), ("seven", -1, 0), ("seven", 0, -1), ("seven", 1, 0)):
            self.assert_neither(("squares", 3, 7), thing)
        for odd in ODD_THINGS:
            self.assert_neither(("squares", 3, 7), ("seven", odd, 0))
            self.assert_neither(("squares", 3, 7), ("seven", 0, odd))

    def test_each_denial_is_of_its_own_number_of_squares(self):
        once = ("once", 7, 1, 1, chain_of((7,)))
        seven = ("seven", 0, 0)
        self.assertEqual([self.is_no(("squares", k, 7), once) for k in (2, 3, 4)], [True, False, False])
        self.assertEqual([self.is_no(("squares", k, 7), seven) for k in (2, 3, 4)], [False, True, False])
        for n in list(range(100)) + [TOP]:
            told = squares_made(("squares", 2, n))[1], squares_made(("squares", 3, n))[1]
            for thing in told + (once, seven):
                self.assert_false(squares_deny(("squares", 4, n), thing))

    def test_other_statements_certificates(self):
        told = [squares_made(("squares", k, n))[1] for k in (2, 3, 4) for n in range(30)]
        for k in (2, 3, 4):
            for n in range(30):
                for thing in told:
                    statement = ("squares", k, n)
                    self.assertIs(self.is_yes(statement, thing), due_yes(statement, thing))
                    self.assertIs(self.is_no(statement, thing), due_no(statement, thing))

    def test_other_forms(self):
        for thing in ANYTHING:
            for k in (2, 3, 4):
                for n in (0, 1, 7, TOP):
                    self.assert_neither(("squares", k, n), thing)

    def test_of_what_is_no_statement(self):
        wrong = (("squares", 2, True), ("squares", True, 1), ("not", ("squares", 2, 1)), ["squares", 2, 1],
                ("squares", 2), ("squares", 2, 1, 0), ("square", 2, 1), ("squares", 2, "n"), None, ("squares", 2, -1))
        self.assert_only_statements(("squares", 2, 1), wrong, ("roots", (0, 1)))
        self.assert_neither(("squares", 1, 4), ("roots", (2,)))
        self.assert_neither(("squares", 5, 0), ("roots", (0,) * 5))
        self.assert_neither(("squares", 2, 100000), ("roots", (100, 300)))
        self.assert_neither(("not", ("squares", 3, 7)), ("seven", 0, 0))
        self.assert_neither(("squares", 3, 4 ** 9 * 7), ("seven", 9, 0))
        self.assert_neither(("squares", 2, 3 ** 11), ("once", 3, 11, 1, chain_of((3,))))
        self.assert_neither(("not", ("squares", 2, 3)), ("once", 3, 1, 1, chain_of((3,))))

    def test_by_names(self):
        for statement in (("squares", 2, 25), ("squares", 2, 99999), ("squares", 3, 9), ("squares", 3, 28),
                ("squares", 4, 15)):
            self.assert_by_names(statement)


if __name__ == "__main__":
    unittest.main()
