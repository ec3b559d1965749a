"""Terms and their worths (5)."""

import unittest

from surenumbers.terms import is_term, worth_of
from tests.helpers import ANYTHING, ODD_THINGS, Kept

BOUND = 10 ** 120
PAIRS = ("sum", "less", "times")


def nested(word, depth):
    """A term of so many parts of this sort, one in another."""
    term = 1
    for _ in range(depth):
        term = (word, term, 1)
    return term


class TestIsTerm(Kept):
    def test_numbers(self):
        for number in (0, 1, -1, 10 ** 39, -(10 ** 39), 10 ** 120, 10 ** 999):
            self.assert_true(is_term(number))

    def test_each_sort(self):
        for word in PAIRS:
            self.assert_true(is_term((word, 1, 2)))
            self.assert_true(is_term((word, -1, (word, 0, 5))))
            self.assert_true(is_term((word, ("power", 2, 3), 5)))
            for depth in range(25):
                self.assert_true(is_term(nested(word, depth)))
        self.assert_true(is_term(("power", ("sum", 1, ("times", 2, ("less", 3, 4))), 5)))

    def test_parts_too_few_and_too_many(self):
        for word in PAIRS + ("power",):
            for thing in ((word,), (word, 1), (word, 1, 2, 3), (word, 1, 2, 3, 4), ()):
                self.assert_false(is_term(thing))

    def test_other_words(self):
        for word in ("plus", "Sum", "", "n", "same", "powers", 1, None, True, (), ("sum",), ["sum"], {}):
            self.assert_false(is_term((word, 1, 2)))

    def test_other_things_in_a_numbers_place(self):
        for odd in ODD_THINGS + ("a", "n", "sum", (), (1,), (1, 2)):
            with self.subTest(odd):
                self.assert_false(is_term(odd))
                self.assert_false(is_term(("power", odd, 2)))
                self.assert_false(is_term(("power", 2, odd)))
                for word in PAIRS:
                    self.assert_false(is_term((word, odd, 2)))
                    self.assert_false(is_term((word, 2, odd)))
                    self.assert_false(is_term((word, ("sum", 1, odd), 2)))
                    self.assert_false(is_term((word, 2, ("power", odd, 2))))

    def test_lists(self):
        self.assert_false(is_term(["sum", 1, 2]))
        self.assert_false(is_term(("sum", ["sum", 1, 2], 1)))
        self.assert_false(is_term([1]))

    def test_powers(self):
        for times in (0, 1, 2, 59, 60):
            self.assert_true(is_term(("power", 2, times)))
        for times in (-1, 61, 10 ** 39, True, False, ("sum", 1, 1), ("power", 1, 1), "2", None):
            self.assert_false(is_term(("power", 2, times)))

    def test_without_worths_they_are_terms_too(self):
        self.assert_true(is_term(BOUND))
        self.assert_true(is_term(("power", 10 ** 39, 60)))
        self.assert_true(is_term(("times", 0, BOUND)))

    def test_of_anything(self):
        for thing in ANYTHING:
            self.assertIn(is_term(thing=thing), (True, False))
            self.assert_kept(is_term, thing)


class TestWorths(Kept):
    def test_each_sort(self):
        self.assertEqual(worth_of(5), 5)
        self.assertEqual(worth_of(-5), -5)
        self.assertEqual(worth_of(("sum", 5, 7)), 12)
        self.assertEqual(worth_of(("less", 5, 7)), -2)
        self.assertEqual(worth_of(("times", -5, 7)), -35)
        self.assertEqual(worth_of(("power", 5, 3)), 125)
        self.assertEqual(worth_of(("power", -2, 3)), -8)
        self.assertEqual(worth_of(("power", -2, 4)), 16)
        self.assertEqual(worth_of(("less", ("times", 3, ("sum", 2, 5)), ("power", ("less", 1, 3), 3))), 29)
        self.assertEqual(worth_of(term=("sum", 1, 1)), 2)

    def test_powers(self):
        for base in range(-5, 6):
            for times in range(61):
                self.assertEqual(worth_of(("power", base, times)), base ** times)
        for base in (0, 1, -1, 7, 10 ** 39, BOUND - 1):
            self.assertEqual(worth_of(("power", base, 0)), 1)
        self.assertEqual(worth_of(("power", 99, 60)), 99 ** 60)
        self.assertIsNone(worth_of(("power", 100, 60)))
        self.assertEqual(worth_of(("power", -99, 60)), 99 ** 60)
        self.assertIsNone(worth_of(("power", -100, 60)))
        self.assertEqual(worth_of(("power", -100, 59)), -(100 ** 59))
        self.assertIsNone(worth_of(("power", 10 ** 40, 3)))
        self.assertIsNone(worth_of(("power", -(10 ** 40), 3)))
        self.assertEqual(worth_of(("power", 1 - 10 ** 40, 3)), (1 - 10 ** 40) ** 3)
        self.assertIsNone(worth_of(("power", 10 ** 119, 60)))

    def test_at_the_bound(self):
        for sign in (1, -1):
            self.assertEqual(worth_of(sign * (BOUND - 1)), sign * (BOUND - 1))
            self.assertIsNone(worth_of(sign * BOUND))
            self.assertIsNone(worth_of(sign * (BOUND + 1)))
            self.assertIsNone(worth_of(sign * 10 ** 999))
            self.assertEqual(worth_of(("sum", sign * (BOUND - 2), sign)), sign * (BOUND - 1))
            self.assertIsNone(worth_of(("sum", sign * (BOUND - 1), sign)))
            self.assertEqual(worth_of(("less", sign * (BOUND - 2), -sign)), sign * (BOUND - 1))
            self.assertIsNone(worth_of(("less", sign * (BOUND - 1), -sign)))
            self.assertIsNone(worth_of(("times", 10 ** 60, sign * 10 ** 60)))
            self.assertEqual(worth_of(("times", 10 ** 60, sign * (10 ** 60 - 1))), sign * (BOUND - 10 ** 60))
            self.assertEqual(worth_of(("power", sign * (BOUND - 1), 1)), sign * (BOUND - 1))
            self.assertIsNone(worth_of(("power", sign * BOUND, 1)))

    def test_a_part_without_worth(self):
        without = (BOUND, -BOUND, ("times", ("power", 10, 60), ("power", 10, 60)))
        for part in without:
            with self.subTest(part):
                self.assertIsNone(worth_of(part))
                self.assertIsNone(worth_of(("times", part, 0)))
                self.assertIsNone(worth_of(("times", 0, part)))
                self.assertIsNone(worth_of(("less", part, part)))
                self.assertIsNone(worth_of(("less", 0, part)))
                self.assertIsNone(worth_of(("sum", part, ("less", 0, part))))
                self.assertIsNone(worth_of(("sum", part, 1)))
                self.assertIsNone(worth_of(("sum", 1, part)))
                self.assertIsNone(worth_of(("power", part, 0)))
                self.assertIsNone(worth_of(("power", ("times", 0, part), 0)))
                self.assertIsNone(worth_of(("sum", 1, ("times", 0, ("less", 1, ("power", part, 0))))))

    def test_what_goes_over_and_comes_back(self):
        self.assertIsNone(worth_of(("less", ("sum", BOUND - 1, 1), 1)))
        self.assertIsNone(worth_of(("sum", ("less", 1 - BOUND, 1), BOUND - 1)))

    def test_deep(self):
        for depth in range(25):
            self.assertEqual(worth_of(nested("sum", depth)), depth + 1)
            self.assertEqual(worth_of(nested("less", depth)), 1 - depth)
            self.assertEqual(worth_of(nested("times", depth)), 1)

    def test_kept(self):
        self.assert_kept(worth_of, ("sum", ("power", 2, 5), ("less", 1, BOUND)))


if __name__ == "__main__":
    unittest.main()
