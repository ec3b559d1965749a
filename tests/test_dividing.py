"""Certificates of divides and shared (8)."""

import math
import unittest

from surenumbers.dividing import dividing_denies, dividing_made, dividing_shows
from tests.helpers import ANYTHING, ODD_THINGS, Judged

GREAT = 10 ** 12


class Divided(Judged):
    shows = staticmethod(dividing_shows)
    denies = staticmethod(dividing_denies)
    made = staticmethod(dividing_made)


class TestDivides(Divided):
    def test_made(self):
        for divisor in list(range(1, 30)) + [GREAT - 1, GREAT]:
            for number in list(range(0, 60)) + [GREAT - 1, GREAT]:
                self.assert_made(("divides", divisor, number), number % divisor == 0)

    def test_every_small_certificate(self):
        for divisor in range(1, 6):
            for number in range(0, 12):
                statement = ("divides", divisor, number)
                for quotient in range(-3, 14):
                    self.assertEqual(self.is_yes(statement, ("times", quotient)), divisor * quotient == number)
                    for rest in range(-7, 8):
                        right = divisor * quotient + rest == number and 1 <= rest <= divisor - 1
                        self.assertEqual(self.is_no(statement, ("rest", quotient, rest)), right)

    def test_edges(self):
        self.assert_yes(("divides", 7, 0), ("times", 0))
        self.assert_yes(("divides", 1, 5), ("times", 5))
        self.assert_no(("divides", 9, 4), ("rest", 0, 4))
        self.assert_neither(("divides", 7, 0), ("rest", -1, 7))
        self.assert_neither(("divides", 7, 14), ("rest", 2, 0))
        self.assert_neither(("divides", 7, 14), ("rest", 1, 7))
        self.assert_neither(("divides", 1, 5), ("rest", 4, 1))
        self.assert_no(("divides", 7, 13), ("rest", 1, 6))
        self.assert_neither(("divides", 7, 13), ("rest", 2, -1))

    def test_the_sides(self):
        self.assert_false(dividing_denies(("divides", 2, 4), ("times", 2)))
        self.assert_false(dividing_shows(("divides", 2, 5), ("rest", 2, 1)))

    def test_other_forms(self):
        for thing in ANYTHING + (("times",), ("times", 2, 2), ["times", 2], ("time", 2), ("rest", 2), ("times", (2,)),
                ("rest", 2, 0, 0)):
            self.assert_neither(("divides", 2, 4), thing)
        for thing in ANYTHING + (("rest", 2), ("rest", 2, 1, 0), ["rest", 2, 1], ("rests", 2, 1), ("times", 2),
                ("rest", (2, 1))):
            self.assert_neither(("divides", 2, 5), thing)

    def test_truths_are_no_numbers(self):
        self.assert_yes(("divides", 2, 2), ("times", 1))
        self.assert_neither(("divides", 2, 2), ("times", True))
        self.assert_yes(("divides", 2, 0), ("times", 0))
        self.assert_neither(("divides", 2, 0), ("times", False))
        self.assert_no(("divides", 2, 3), ("rest", 1, 1))
        self.assert_neither(("divides", 2, 3), ("rest", True, 1))
        self.assert_neither(("divides", 2, 3), ("rest", 1, True))
        for odd in ODD_THINGS:
            self.assert_neither(("divides", 2, 2), ("times", odd))
            self.assert_neither(("divides", 2, 3), ("rest", odd, 1))
            self.assert_neither(("divides", 2, 3), ("rest", 1, odd))

    def test_of_what_is_no_statement(self):
        wrong = (
            ("divides", True, 2), ("divides", 0, 0), ("divides", -1, -2), ("divides", 1, 2, 2), ["divides", 1, 2],
            ("not", ("divides", 1, 2)),
            ("divides", "n", 2), ("prime", 2), ("same", 2, 2), None, (), ("divides", GREAT + 1, 2 * GREAT + 2),
        )
        self.assert_only_statements(("divides", 1, 2), wrong, ("times", 2))
        self.assert_only_statements(("divides", 2, 5), (("divides", 2, True), ("divides", 0, 1),
                ("not", ("divides", 2, 5))), ("rest", 2, 1))


class TestShared(Divided):
    def test_made(self):
        numbers = list(range(0, 22)) + [GREAT - 1, GREAT, 999999000000]
        for one in numbers:
            for other in numbers:
                right = math.gcd(one, other)
                for divisor in {0, 1, 2, 3, right, min(right + 1, GREAT)}:
                    thing = self.assert_made(("shared", one, other, divisor), divisor == right)
                    self.assertEqual(thing[0], "parts" if divisor == right else "other")

    def test_several_parts(self):
        statement = ("shared", 12, 18, 6)
        for times in range(-5, 6):
            self.assert_yes(statement, ("parts", 2, 3, -1 + 3 * times, 1 - 2 * times))
        for thing in (
            ("parts", 3, 3, -1, 1), ("parts", 2, 2, -1, 1), ("parts", 2, 3, 0, 1), ("parts", 2, 3, -1, 0),
            ("parts", 2, 3, 1, -1),
            ("parts", -2, -3, -1, 1), ("parts", 2, 3, -1), ("parts", 2, 3, -1, 1, 0), ["parts", 2, 3, -1, 1],
            ("part", 2, 3, -1, 1),
            ("parts", (2, 3), -1, 1), ("parts", 3, 2, -1, 1),
        ):
            self.assert_neither(statement, thing)
        great = 10 ** 39
        self.assert_yes(statement, ("parts", 2, 3, -1 + 3 * great, 1 - 2 * great))

    def test_every_small_certificate(self):
        small = range(-2, 3)
        for one, other, divisor in ((0, 0, 0), (0, 1, 1), (1, 2, 1), (2, 2, 2), (2, 1, 0), (0, 0, 1), (2, 0, 1),
                (2, 2, 1)):
            statement = ("shared", one, other, divisor)
            for up in small:
                for down in small:
                    for left in small:
                        for right in small:
                            thing = ("parts", up, down, left, right)
                            parts_fit = (one, other) == (divisor * up, divisor * down)
                            due = parts_fit and one * left + other * right == divisor
                            self.assertEqual(self.is_yes(statement, thing), due)
                            self.assert_false(dividing_denies(statement, thing))
                            if due:
                                self.assertEqual(divisor, math.gcd(one, other))

    def test_edges(self):
        self.assert_yes(("shared", 0, 0, 0), ("parts", 0, 0, 0, 0))
        self.assert_yes(("shared", 0, 0, 0), ("parts", 5, -7, 9, 1))
        self.assert_neither(("shared", 0, 0, 1), ("parts", 0, 0, 0, 0))
        self.assert_no(("shared", 0, 0, 1), ("other", 0, ("parts", 1, 2, 3, 4)))
        self.assert_yes(("shared", 0, 9, 9), ("parts", 0, 1, 4, 1))
        self.assert_yes(("shared", 9, 0, 9), ("parts", 1, 0, 1, 7))
        self.assert_no(("shared", 9, 0, 0), ("other", 9, ("parts", 1, 0, 1, 7)))
        self.assert_yes(("shared", 9, 9, 9), ("parts", 1, 1, 1, 0))
        self.assert_yes(("shared", 9, 9, 9), ("parts", 1, 1, 0, 1))
        self.assert_no(("shared", 8, 9, 0), ("other", 1, ("parts", 8, 9, -1, 1)))

    def test_another_divisor(self):
        shown = ("parts", 2, 3, -1, 1)
        self.assert_no(("shared", 12, 18, 3), ("other", 6, shown))
        self.assert_neither(("shared", 12, 18, 6), ("other", 6, shown))
        self.assert_neither(("shared", 12, 18, 3), shown)
        for thing in (
            ("other", 5, shown), ("other", 3, shown), ("other", 6), ("other", 6, shown, 0), ["other", 6, shown],
            ("others", 6, shown),
            ("other", 6, list(shown)), ("other", 6, ("parts", 2, 3, -1, 0)), ("other", 6, ("other", 6, shown)),
            ("other", shown, 6), shown,
            ("other", (6,), shown), ("other", -6, ("parts", -2, -3, 1, -1)), ("other", 6, 5), ("other", 6, None),
        ):
            self.assert_neither(("shared", 12, 18, 3), thing)

    def test_another_divisor_below_0(self):
        # By these parts -6 would be shown, too; but it is no divisor from 0 on.
        self.assert_neither(("shared", 12, 18, 3), ("other", -6, ("parts", -2, -3, 1, -1)))
        self.assert_neither(("shared", 12, 18, 6), ("other", -6, ("parts", -2, -3, 1, -1)))
        self.assert_neither(("shared", 0, 0, 0), ("other", -1, ("parts", 0, 0, 0, 0)))
        self.assert_no(("shared", 8, 9, 2), ("other", 1, ("parts", 8, 9, -1, 1)))
        self.assert_neither(("shared", 8, 9, 2), ("other", -1, ("parts", -8, -9, 1, -1)))
        self.assert_neither(("shared", 8, 9, 1), ("other", -1, ("parts", -8, -9, 1, -1)))

    def test_truths_are_no_numbers(self):
        statement = ("shared", 1, 1, 1)
        right = ("parts", 1, 1, 0, 1)
        self.assert_yes(statement, right)
        for at in range(1, 5):
            for odd in ODD_THINGS + (bool(right[at]), (right[at],)):
                self.assert_neither(statement, right[:at] + (odd,) + right[at + 1:])
        self.assert_no(("shared", 1, 1, 0), ("other", 1, right))
        self.assert_neither(("shared", 1, 1, 0), ("other", True, right))
        self.assert_no(("shared", 0, 0, 1), ("other", 0, ("parts", 0, 0, 0, 0)))
        self.assert_neither(("shared", 0, 0, 1), ("other", False, ("parts", 0, 0, 0, 0)))
        for odd in ODD_THINGS:
            self.assert_neither(("shared", 1, 1, 0), ("other", odd, right))

    def test_other_forms(self):
        for thing in ANYTHING:
            self.assert_neither(("shared", 12, 18, 6), thing)
            self.assert_neither(("shared", 12, 18, 5), thing)

    def test_of_what_is_no_statement(self):
        wrong = (("shared", True, 1, 1), ("shared", 1, True, 1), ("shared", 1, 1, True), ("shared", 1, 1),
                ("not", ("shared", 1, 1, 1)))
        self.assert_only_statements(("shared", 1, 1, 1), wrong, ("parts", 1, 1, 0, 1))
        self.assert_only_statements(("shared", 1, 1, 0), (("shared", 1, 1, False), ("shared", 1, 1, -1)),
                ("other", 1, ("parts", 1, 1, 0, 1)))

    def test_by_names(self):
        for statement in (("divides", 2, 4), ("divides", 2, 5), ("shared", 12, 18, 6), ("shared", 12, 18, 5)):
            self.assert_by_names(statement)


if __name__ == "__main__":
    unittest.main()
