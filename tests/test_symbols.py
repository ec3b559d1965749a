"""Certificates of square (12)."""

import math
import unittest

from surenumbers.symbols import symbol_denies, symbol_made, symbol_shows
from tests.helpers import ANYTHING, ODD_THINGS, Judged, has_form

ROWS_BY_SEVEN = ((1, 3, 7), (-1, 1, 3))
# 2 by 5: an even a, b of rest 5 by 8.
ROWS_BY_FIVE = ((1, 2, 5), (-1, 1, 5))


def squares_by(n):
    return {x * x % n for x in range(n)}


def follows(row, behind):
    """Whether the one row may stand behind the other, by point 12."""
    sign, a, b = row
    if a != 0 and a % 2 == 0:
        return behind == (-sign if b % 8 in (3, 5) else sign, a // 2, b)
    if a % 2 == 1 and a != 1:
        return behind == (-sign if a % 4 == 3 and b % 4 == 3 else sign, b % a, a)
    return False


def due_yes(statement, thing):
    a, n = statement[1:]
    return has_form(thing, ("root", int)) and thing[1] >= 0 and (thing[1] ** 2 - a) % n == 0


def due_no(statement, thing):
    """Point 12 word by word, for no."""
    a, n = statement[1:]
    if not has_form(thing, ("symbol", int, [(int, int, int)])):
        return False
    word, d, rows = thing
    if d % 2 == 0 or d < 3 or n % d != 0 or len(rows) == 0 or rows[0] != (1, a % d, d):
        return False
    if not all(follows(row, behind) for row, behind in zip(rows, rows[1:])):
        return False
    return rows[-1][:2] == (-1, 1) and not any(row[1] == 1 for row in rows[:-1])


def rows_of(a, d):
    """The rows by point 12, gone on with as long as it goes."""
    rows = [(1, a % d, d)]
    while rows[-1][1] > 1:
        sign, a, b = rows[-1]
        if a % 2 == 0:
            rows.append((-sign if b % 8 in (3, 5) else sign, a // 2, b))
        else:
            rows.append((-sign if a % 4 == 3 and b % 4 == 3 else sign, b % a, a))
    return tuple(rows)


class TestSquare(Judged):
    shows = staticmethod(symbol_shows)
    denies = staticmethod(symbol_denies)
    made = staticmethod(symbol_made)

    def assert_all_due(self, statement, is_so):
        thing = self.assert_made(statement, is_so)
        self.assert_as_due(statement, thing, due_yes, due_no)
        return thing

    def test_every_small_one(self):
        for n in range(3, 130, 2):
            squares = squares_by(n)
            for a in range(1, n):
                if math.gcd(a, n) == 1:
                    self.assert_made(("square", a, n), a in squares)

    def test_great_ones(self):
        for n in (99999, 99997, 99991, 99989, 99225, 59049, 78125, 3 * 7 * 11 * 13 * 17, 313 * 313, 307 * 311,
                41 * 43 * 53, 3 ** 2 * 5 ** 2 * 7 ** 2):
            squares = squares_by(n)
            for a in (1, 2, 3, 4, 5, 16, n - 1, n - 2, n // 2, n // 3):
                if math.gcd(a, n) == 1:
                    self.assert_made(("square", a, n), a in squares)

    def test_spoilt(self):
        for a, n in ((1, 3), (2, 3), (4, 7), (3, 7), (2, 15), (4, 15), (8, 15), (7, 9), (2, 9), (5, 21), (98, 105),
                (4, 105), (2, 105), (1001, 99999), (7, 99991), (5, 99991)):
            if math.gcd(a, n) == 1:
                self.assert_all_due(("square", a, n), a in squares_by(n))

    def test_a_square_by_one_prime_alone_or_by_none(self):
        # 15: 1 and 4 are squares; 2 is one by neither, 7 by 3 alone, 11 by 5 alone.
        for a, d in ((7, 5), (13, 5), (11, 3), (14, 3)):
            self.assertEqual(self.assert_all_due(("square", a, 15), False)[1], d)
        for a in (2, 8):
            thing = self.assert_all_due(("square", a, 15), False)
            self.assertIn(thing[1], (3, 5))
            # The rows by 15 itself end with the sign 1, and show nothing.
            self.assertEqual(rows_of(a, 15)[-1][:2], (1, 1))
            self.assert_neither(("square", a, 15), ("symbol", 15, rows_of(a, 15)))
        self.assert_no(("square", 7, 15), ("symbol", 15, rows_of(7, 15)))
        self.assert_no(("square", 7, 15), ("symbol", 5, rows_of(7, 5)))
        self.assert_neither(("square", 7, 15), ("symbol", 3, rows_of(7, 3)))

    def test_whatever_divisor_of_a_product_of_three(self):
        n = 3 * 5 * 7
        squares = squares_by(n)
        for a in range(1, n):
            if math.gcd(a, n) == 1:
                for d in range(1, n + 3):
                    rows = rows_of(a, d) if d % 2 == 1 and d > 1 and math.gcd(a, d) == 1 else ((1, 1, d),)
                    told = self.is_no(("square", a, n), ("symbol", d, rows))
                    self.assertIs(told, n % d == 0 and d >= 3 and rows[-1][:2] == (-1, 1))
                    self.assertLessEqual(told, a not in squares)

    def test_squares_of_primes(self):
        # By 9 itself 2 has the sign 1, though it is no square.
        self.assertEqual(rows_of(2, 9)[-1][:2], (1, 1))
        self.assertEqual(self.assert_all_due(("square", 2, 9), False)[1], 3)
        self.assert_all_due(("square", 7, 9), True)
        self.assert_all_due(("square", 2, 49), True)
        self.assert_all_due(("square", 3, 49), False)
        for n in (27, 81, 125, 25, 121, 343, 7 ** 4, 99225, 98595):
            self.assert_made(("square", 2, n), 2 in squares_by(n))

    def test_root(self):
        statement = ("square", 2, 7)
        self.assertEqual([x for x in range(-20, 20) if self.is_yes(statement, ("root", x))], [3, 4, 10, 11, 17, 18])
        self.assert_yes(statement, ("root", 3 + 7 * 10 ** 38))
        self.assert_neither(("square", 3, 7), ("root", 0))
        self.assert_neither(statement, ("root", 0))
        for thing in (("root",), ("root", 3, 3), ["root", 3], ("roots", 3), ("root", (3,)), ("root", -3), ("root", 2)):
            self.assert_neither(statement, thing)
        self.assert_yes(("square", 1, 3), ("root", 1))
        self.assert_neither(("square", 1, 3), ("root", True))
        for odd in ODD_THINGS:
            self.assert_neither(("square", 1, 3), ("root", odd))

    def test_d(self):
        statement = ("square", 3, 35)
        for d in (5, 7):
            self.assert_no(statement, ("symbol", d, rows_of(3, d)))
        self.assert_neither(statement, ("symbol", 35, rows_of(3, 35)))
        # Rows that are right by themselves, by what is no odd divisor from 3 on.
        for d in (17, 19, 31, 43, 29, 23, 25, 49, 175):
            self.assert_neither(statement, ("symbol", d, rows_of(3, d)))
        for d, rows in ((1, ((1, 0, 1),)), (1, ((-1, 1, 1),)), (-5, ((1, -2, -5), (-1, 1, -5))), (10, ((1, 3, 10),
                (-1, 1, 3))), (0, ()), (2, ((1, 1, 2),)), (-1, ((1, 0, -1),)), (5, ()), (True, ((1, 0, 1),))):
            self.assert_neither(statement, ("symbol", d, rows))
        for odd in ODD_THINGS:
            self.assert_neither(statement, ("symbol", odd, rows_of(3, 7)))
            self.assert_neither(statement, ("symbol", 7, odd))
        for thing in (("symbol", 7), ("symbol", 7, ROWS_BY_SEVEN, 0), ["symbol", 7, ROWS_BY_SEVEN],
                ("symbols", 7, ROWS_BY_SEVEN), ("symbol", ROWS_BY_SEVEN, 7)):
            self.assert_neither(statement, thing)

    def test_each_row_rule(self):
        seven = ("square", 3, 7)
        self.assert_no(seven, ("symbol", 7, ROWS_BY_SEVEN))
        five = ("square", 2, 5)
        self.assert_no(five, ("symbol", 5, ROWS_BY_FIVE))
        for rows in (
            ((1, 2, 5), (1, 1, 5)), ((-1, 2, 5), (-1, 1, 5)), ((1, 2, 5), (-1, 1, 2)), ((1, 2, 5), (-1, 2, 5)),
            ((1, 2, 5),), ((-1, 1, 5),), (), ((1, 2, 5), (-1, 1, 5), (-1, 1, 5)), ((1, 2, 5), (-1, 1, 5), (-1, 0, 1)),
            ((1, 2, 5), (-1, 1, 5), (1, 5, 1)), ((1, 7, 5), (-1, 1, 5)), ((1, 2, 5), (-1, True, 5)),
            ((True, 2, 5), (-1, 1, 5)), ([1, 2, 5], (-1, 1, 5)), [(1, 2, 5), (-1, 1, 5)], ((1, 2, 5), (-1, 1)),
            ((1, 2, 5), (-1, 1, 5, 0)), ((1, 2, 5), (-2, 1, 5)), ((1, 2, 5), None, (-1, 1, 5)), ((1, 2, 5), -1, 1, 5),
            ((-1, 1, 5), (1, 2, 5)), ((1, 2, 3), (-1, 1, 3)), ((1, 1, 5), (-1, 1, 5)), ((1, 4, 5), (-1, 2, 5)),
        ):
            self.assert_neither(five, ("symbol", 5, rows))
        for rows in (((1, 3, 7), (1, 1, 3)), ((1, 3, 7), (-1, 7, 3)), ((1, 3, 7), (-1, 1, 7)), ((1, 3, 7),),
                ((1, 3, 7), (-1, 3, 7)), ((1, 7, 3), (-1, 1, 3)), ((1, 3, 7), (-1, 4, 3), (-1, 2, 3), (1, 1, 3))):
            self.assert_neither(seven, ("symbol", 7, rows))

    def test_the_signs(self):
        # The rest by 8 of b, for even a: 3 and 5 turn the sign, 1 and 7 do not.
        self.assertEqual([p % 8 for p in (11, 13, 17, 23)], [3, 5, 1, 7])
        for p in (11, 13):
            rows = rows_of(2, p)
            self.assertEqual(rows, ((1, 2, p), (-1, 1, p)))
            self.assert_no(("square", 2, p), ("symbol", p, rows))
        for p in (17, 23):
            self.assert_neither(("square", 2, p), ("symbol", p, ((1, 2, p), (1, 1, p))))
            self.assert_neither(("square", 2, p), ("symbol", p, ((1, 2, p), (-1, 1, p))))
        # Both rests by 4, for odd a: 3 and 3 turn the sign, all others do not.
        self.assert_no(("square", 3, 7), ("symbol", 7, ((1, 3, 7), (-1, 1, 3))))
        for a, p in ((3, 13), (5, 11), (13, 17)):
            self.assert_neither(("square", a, p), ("symbol", p, ((1, a, p), (-1, p % a, a))))
            self.assert_made(("square", a, p), a in squares_by(p))
        # 0 has nothing behind it, and a 1 ahead of the last is not let by.
        self.assert_neither(("square", 3, 7), ("symbol", 7, ((1, 3, 7), (-1, 1, 3), (-1, 0, 1), (-1, 1, 0))))
        self.assert_neither(("square", 8, 35), ("symbol", 7, ((1, 1, 7), (-1, 1, 7))))

    def test_many_rows(self):
        seen = 0
        for n in range(99900, 100000):
            for a in (n - 2, n // 3, n // 2 + 1, 12345):
                if n % 2 == 1 and math.gcd(a, n) == 1:
                    thing = symbol_made(("square", a, n))[1]
                    if thing[0] == "symbol":
                        seen = max(seen, len(thing[2]))
                        self.assertTrue(due_no(("square", a, n), thing))
                        self.assert_no(("square", a, n), thing)
        self.assertGreaterEqual(seen, 12)

    def test_other_statements_certificates(self):
        told = {a: symbol_made(("square", a, 21))[1] for a in range(1, 21) if math.gcd(a, 21) == 1}
        for a in told:
            for b in told:
                self.assertIs(self.is_yes(("square", a, 21), told[b]), due_yes(("square", a, 21), told[b]))
                self.assertIs(self.is_no(("square", a, 21), told[b]), due_no(("square", a, 21), told[b]))

    def test_other_forms(self):
        for thing in ANYTHING:
            for statement in (("square", 1, 3), ("square", 2, 3), ("square", 2, 15)):
                self.assert_neither(statement, thing)

    def test_of_what_is_no_statement(self):
        wrong = (("square", True, 3), ("square", 1, True), ("not", ("square", 1, 3)), ["square", 1, 3],
                ("square", 1, 3, 0), ("square", 1, 4), ("square", 4, 3), ("square", "n", 3), ("squares", 2, 1), None,
                ("square", 1, 100001), ("square", 1, 1), ("square", 3, 3))
        self.assert_only_statements(("square", 1, 3), wrong, ("root", 1))
        self.assert_only_statements(("square", 2, 5), (("square", 7, 5), ("not", ("square", 2, 5)), ("square", 2, 10),
                ("square", 5, 15), ("root", 2, 5)), ("symbol", 5, ROWS_BY_FIVE))
        # Of what shares a divisor with n there is no statement, whatever the rows by another divisor are.
        self.assert_neither(("square", 12, 15), ("symbol", 5, rows_of(12, 5)))

    def test_by_names(self):
        for statement in (("square", 2, 7), ("square", 3, 7), ("square", 2, 15), ("square", 98, 99999)):
            self.assert_by_names(statement)


if __name__ == "__main__":
    unittest.main()
