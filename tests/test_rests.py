"""Certificates of joined and clash (10)."""

import itertools
import math
import unittest

from surenumbers.rests import rest_denies, rest_made, rest_shows
from tests.helpers import ANYTHING, ODD_THINGS, Judged, has_form

GREAT = 10 ** 12
EIGHT = tuple((k - 1, k) for k in (2, 3, 5, 7, 11, 13, 17, 19))
EIGHT_WHOLE = 2 * 3 * 5 * 7 * 11 * 13 * 17 * 19


def has_all(number, pairs):
    return all(number % k == r for r, k in pairs)


def whole_of(pairs):
    return math.lcm(*[k for r, k in pairs])


def is_joined(pairs, s, m):
    """Whether the numbers of all rests are just those of the rest s by m, gone through one by one."""
    return all(has_all(number, pairs) == (number % m == s) for number in range(whole_of(pairs) * m))


def is_clash(pairs):
    return not any(has_all(number, pairs) for number in range(whole_of(pairs)))


def due_yes(statement, thing):
    """Point 10 word by word, for yes."""
    pairs = statement[1]
    if statement[0] == "clash":
        if not has_form(thing, ("two", int, int, int)):
            return False
        word, i, j, d = thing
        if not 0 <= i < j < len(pairs) or d < 1:
            return False
        return pairs[i][1] % d == 0 and pairs[j][1] % d == 0 and (pairs[i][0] - pairs[j][0]) % d != 0
    s, m = statement[2:]
    if not has_form(thing, ("sums", [int])) or len(thing[1]) != len(pairs):
        return False
    if not has_all(s, pairs) or any(m % k for r, k in pairs):
        return False
    return sum(x * (m // k) for x, (r, k) in zip(thing[1], pairs)) == 1


def due_no(statement, thing):
    """Point 10 word by word, for no."""
    pairs = statement[1]
    if statement[0] == "clash":
        return has_form(thing, ("one", int)) and thing[1] >= 0 and has_all(thing[1], pairs)
    s, m = statement[2:]
    if has_form(thing, ("lacks", int)):
        return 0 <= thing[1] < len(pairs) and (s % pairs[thing[1]][1] != pairs[thing[1]][0]
                or m % pairs[thing[1]][1] != 0)
    return has_form(thing, ("less", int)) and 1 <= thing[1] <= m - 1 and all(thing[1] % k == 0 for r, k in pairs)


class Rested(Judged):
    shows = staticmethod(rest_shows)
    denies = staticmethod(rest_denies)
    made = staticmethod(rest_made)

    def assert_all_due(self, statement, is_so):
        self.assert_as_due(statement, self.assert_made(statement, is_so), due_yes, due_no)


class TestJoined(Rested):
    def test_every_small_one(self):
        single = [(r, k) for k in range(1, 5) for r in range(k)]
        for pairs in [(pair,) for pair in single] + list(itertools.product(single, single)):
            for m in range(1, 14):
                for s in range(m):
                    self.assert_made(("joined", pairs, s, m), is_joined(pairs, s, m))

    def test_three_pairs(self):
        for pairs in (((1, 4), (3, 6), (0, 3)), ((2, 4), (0, 6), (1, 5)), ((0, 2), (1, 2), (0, 3))):
            whole = whole_of(pairs)
            for m in (1, whole // 2, whole, 2 * whole, whole + 1):
                for s in range(m):
                    self.assert_made(("joined", pairs, s, m), m == whole and has_all(s, pairs))

    def test_every_small_certificate(self):
        numbers = range(-7, 8)
        for pairs, s, m in ((((2, 3), (1, 4)), 5, 12), (((2, 4), (0, 6)), 6, 12), (((2, 4), (0, 6)), 6, 24),
                (((2, 4), (0, 6)), 0, 6), (((0, 1),), 0, 1), (((0, 1),), 0, 2), (((1, 2), (1, 2)), 1, 2),
                (((0, 2), (1, 2)), 0, 2), (((1, 5),), 1, 5), (((1, 5),), 2, 5)):
            statement = ("joined", pairs, s, m)
            due = is_joined(pairs, s, m)
            for xs in itertools.product(numbers, repeat=len(pairs)):
                told = self.is_yes(statement, ("sums", xs))
                self.assertIs(told, due_yes(statement, ("sums", xs)))
                self.assertLessEqual(told, due)
            for number in range(-3, 30):
                for word in ("lacks", "less"):
                    told = self.is_no(statement, (word, number))
                    self.assertIs(told, due_no(statement, (word, number)))
                    self.assertLessEqual(told, not due)

    def test_eight_pairs(self):
        self.assert_all_due(("joined", EIGHT, EIGHT_WHOLE - 1, EIGHT_WHOLE), True)
        self.assert_all_due(("joined", EIGHT, EIGHT_WHOLE - 2, EIGHT_WHOLE), False)
        self.assert_all_due(("joined", EIGHT, EIGHT_WHOLE - 1, 2 * EIGHT_WHOLE), False)
        self.assert_all_due(("joined", EIGHT, EIGHT_WHOLE // 19 - 1, EIGHT_WHOLE // 19), False)
        self.assert_all_due(("joined", ((999, 1000),) * 8, 999, 1000), True)
        self.assert_all_due(("joined", ((999, 1000),) * 8, GREAT - 1, GREAT), False)

    def test_great_divisors(self):
        # Four that share nothing come close to the bound; eight of them go beyond it.
        four = ((5, 991), (6, 997), (7, 983), (8, 977))
        whole = whole_of(four)
        s = 0
        step = 1
        for r, k in four:
            while s % k != r:
                s += step
            step *= k
        self.assertLess(whole, GREAT)
        self.assert_all_due(("joined", four, s, whole), True)
        self.assert_all_due(("joined", four, s + 1, whole), False)
        eight = four + ((1, 971), (1, 967), (1, 953), (1, 947))
        self.assertGreater(whole_of(eight), GREAT)
        self.assert_all_due(("joined", eight, 1, GREAT), False)
        self.assert_all_due(("joined", eight, s, whole), False)

    def test_divisors_that_share_something(self):
        pairs = ((11, 12), (5, 18), (23, 40))
        self.assert_all_due(("joined", pairs, 23, 360), True)
        for s in (22, 24, 11, 5, 0, 359, 203):
            self.assert_all_due(("joined", pairs, s, 360), False)
        for m in (720, 1080, 180, 120, 40, 24, GREAT):
            self.assert_all_due(("joined", pairs, 23, m), False)
        self.assert_all_due(("joined", pairs, 0, 1), False)
        self.assert_all_due(("joined", ((999, 1000), (499, 500), (24, 25)), 999, 1000), True)

    def test_one_pair(self):
        self.assert_all_due(("joined", ((0, 1),), 0, 1), True)
        self.assert_all_due(("joined", ((0, 1),), 0, 2), False)
        self.assert_all_due(("joined", ((0, 1),), 0, GREAT), False)
        self.assert_all_due(("joined", ((7, 1000),), 7, 1000), True)
        self.assert_all_due(("joined", ((7, 1000),), 7, 500), False)
        self.assert_all_due(("joined", ((7, 1000),), 1007, 2000), False)

    def test_sums(self):
        statement = ("joined", ((2, 3), (1, 4)), 5, 12)
        for turns in range(-4, 5):
            self.assert_yes(statement, ("sums", (1 + 3 * turns, -1 - 4 * turns)))
        self.assert_yes(statement, ("sums", (1 + 3 * 10 ** 38, -1 - 4 * 10 ** 38)))
        for xs in ((1,), (1, -1, 0), (), (True, -1), [1, -1], (-1, 1), (0, 0), (1, 1), (4, -4), 1, None, ((1, -1),)):
            self.assert_neither(statement, ("sums", xs))
        for thing in (("sums", 1, -1), ("sum", (1, -1)), ["sums", (1, -1)], ("sums",), (1, -1)):
            self.assert_neither(statement, thing)
        self.assert_yes(("joined", ((0, 1),), 0, 1), ("sums", (1,)))
        self.assert_neither(("joined", ((0, 1),), 0, 1), ("sums", (True,)))

    def test_sums_of_what_is_not_so(self):
        # The products come to 1, but s has not all rests, or a k does not divide m.
        self.assert_neither(("joined", ((2, 3), (1, 4)), 8, 12), ("sums", (1, -1)))
        self.assert_neither(("joined", ((2, 3), (1, 4)), 1, 12), ("sums", (1, -1)))
        self.assert_neither(("joined", ((2, 3), (1, 4)), 5, 6), ("sums", (0, 1)))
        self.assert_neither(("joined", ((2, 3), (1, 4)), 5, 24), ("sums", (1, -1)))

    def test_lacks(self):
        statement = ("joined", ((2, 3), (1, 4), (0, 5)), 5, 60)
        self.assert_made(statement, True)
        for j in (-1, 0, 1, 2, 3):
            self.assert_neither(statement, ("lacks", j))
        first = ("joined", ((2, 3), (1, 4), (0, 5)), 25, 60)
        self.assertEqual([j for j in range(-4, 5) if self.is_no(first, ("lacks", j))], [0])
        last = ("joined", ((2, 3), (1, 4), (0, 5)), 17, 60)
        self.assertEqual([j for j in range(-4, 5) if self.is_no(last, ("lacks", j))], [2])
        divisor = ("joined", ((2, 3), (1, 4), (0, 5)), 5, 30)
        self.assertEqual([j for j in range(-4, 5) if self.is_no(divisor, ("lacks", j))], [1])
        for odd in ODD_THINGS + ((0,), "n"):
            self.assert_neither(first, ("lacks", odd))
        self.assert_neither(("joined", ((2, 3), (1, 4)), 2, 12), ("lacks", True))
        self.assert_no(("joined", ((2, 3), (1, 4)), 2, 12), ("lacks", 1))
        for thing in (("lacks",), ("lacks", 0, 0), ["lacks", 0], ("lack", 0)):
            self.assert_neither(first, thing)

    def test_less(self):
        statement = ("joined", ((2, 3), (1, 4)), 5, 24)
        self.assertEqual([q for q in range(-30, 60) if self.is_no(statement, ("less", q))], [12])
        self.assert_neither(("joined", ((2, 3), (1, 4)), 5, 12), ("less", 12))
        self.assert_neither(("joined", ((2, 3), (1, 4)), 5, 24), ("less", 8))
        self.assert_neither(("joined", ((2, 3), (1, 4)), 5, 24), ("less", 9))
        wide = ("joined", ((2, 3), (1, 4)), 5, 49)
        self.assertEqual([q for q in range(-30, 60) if self.is_no(wide, ("less", q))], [12, 24, 36, 48])
        ones = ("joined", ((0, 1),), 0, 3)
        self.assertEqual([q for q in range(-3, 9) if self.is_no(ones, ("less", q))], [1, 2])
        for odd in ODD_THINGS + ((1,),):
            self.assert_neither(ones, ("less", odd))

    def test_of_what_is_no_statement(self):
        wrong = (("joined", ((2, 3), (1, 4)), 5, True), ("joined", ((2, 3), [1, 4]), 5, 12), ("not",
                ("joined", ((2, 3), (1, 4)), 5, 12)), ["joined", ((2, 3), (1, 4)), 5, 12], ("joined", ((2, 3), (1, 4)),
                5), ("joined", ((2, 3), (True, 4)), 5, 12), ("clash", ((2, 3), (1, 4))), ("prime", 5), None)
        self.assert_only_statements(("joined", ((2, 3), (1, 4)), 5, 12), wrong, ("sums", (1, -1)))
        wrong = (("joined", ((0, True),), 0, 3), ("joined", ((False, 1),), 0, 3), ("joined", ((0, 1),), False, 3),
                ("joined", (), 0, 3), ("joined", ((0, 1),) * 9, 0, 3), ("not", ("joined", ((0, 1),), 0, 3)),
                ("joined", ((0, 1),), 3, 3), ("joined", ((0, 1),), 0, GREAT + 1), ("clash", ((0, 1),)))
        self.assert_only_statements(("joined", ((0, 1),), 0, 3), wrong, ("less", 2))
        self.assert_only_statements(("joined", ((1, 2),), 0, 3), (("joined", ((1, 2),), False, 3),
                ("joined", ((True, 2),), 0, 3), ("clash", ((1, 2),))), ("lacks", 0))


class TestClash(Rested):
    def test_every_small_one(self):
        single = [(r, k) for k in range(1, 7) for r in range(k)]
        for pairs in [(pair,) for pair in single] + list(itertools.product(single, single)):
            self.assert_made(("clash", pairs), is_clash(pairs))
        some = [(r, k) for k in (2, 4, 6) for r in range(k)]
        for pairs in itertools.product(some, some, some):
            self.assert_made(("clash", pairs), is_clash(pairs))

    def test_every_small_certificate(self):
        for pairs in (((0, 2), (1, 2)), ((1, 4), (3, 6), (0, 3)), ((1, 4), (2, 6), (5, 9)), ((0, 1),),
                ((3, 4), (1, 2), (1, 4))):
            statement = ("clash", pairs)
            due = is_clash(pairs)
            for thing in itertools.product(("two",), range(-2, 5), range(-2, 5), range(-4, 8)):
                told = self.is_yes(statement, thing)
                self.assertIs(told, due_yes(statement, thing))
                self.assertLessEqual(told, due)
            for s in range(-40, 80):
                told = self.is_no(statement, ("one", s))
                self.assertIs(told, s >= 0 and has_all(s, pairs))
                self.assertLessEqual(told, not due)

    def test_made(self):
        self.assert_all_due(("clash", ((0, 2), (1, 2))), True)
        self.assert_all_due(("clash", EIGHT), False)
        self.assert_all_due(("clash", ((0, 1),)), False)
        self.assert_all_due(("clash", ((999, 1000),) * 8), False)
        great = tuple((k // 2, k) for k in (997, 991, 983, 977, 971, 967, 953, 947))
        self.assert_all_due(("clash", great), False)
        self.assertEqual(self.assert_made(("clash", great), False)[0], "one")
        even = tuple((k // 2, k) for k in (1000, 999, 998, 997, 996, 995, 994, 993))
        self.assert_all_due(("clash", even), any(
            (one[0] - other[0]) % math.gcd(one[1], other[1]) for one, other in itertools.combinations(even, 2)))

    def test_only_the_first_and_the_last_are_at_odds(self):
        pairs = ((0, 10), (1, 3), (0, 7), (1, 15))
        self.assertEqual(self.assert_made(("clash", pairs), True), ("two", 0, 3, 5))
        self.assert_all_due(("clash", pairs), True)
        eight = ((0, 22),) + tuple((0, k) for k in (3, 5, 7, 13, 17, 19)) + ((1, 11),)
        self.assertEqual(self.assert_made(("clash", eight), True)[:3], ("two", 0, 7))
        self.assertEqual([(i, j) for i in range(-9, 10) for j in range(-9, 10) if self.is_yes(("clash", eight),
                ("two", i, j, 11))], [(0, 7)])

    def test_two(self):
        statement = ("clash", ((1, 12), (3, 18)))
        self.assertEqual([d for d in range(-20, 40) if self.is_yes(statement, ("two", 0, 1, d))], [3, 6])
        for thing in (("two", 1, 0, 3), ("two", 0, 0, 3), ("two", 1, 1, 3), ("two", 0, 2, 3), ("two", -1, 1, 3),
                ("two", -2, -1, 3), ("two", 0, -1, 3), ("two", 0, 1, 0), ("two", 0, 1, 1), ("two", 0, 1, 2),
                ("two", 0, 1, 4), ("two", 0, 1, 9), ("two", 0, 1, -3), ("two", 0, 1), ("two", 0, 1, 3, 0),
                ["two", 0, 1, 3], ("twos", 0, 1, 3), ("two", False, 1, 3), ("two", 0, True, 3), ("two", 0, 1, (3,))):
            self.assert_neither(statement, thing)
        for odd in ODD_THINGS:
            self.assert_neither(statement, ("two", odd, 1, 3))
            self.assert_neither(statement, ("two", 0, odd, 3))
            self.assert_neither(statement, ("two", 0, 1, odd))

    def test_one(self):
        statement = ("clash", ((1, 4), (3, 6)))
        self.assertEqual([s for s in range(-30, 40) if self.is_no(statement, ("one", s))], [9, 21, 33])
        self.assert_no(statement, ("one", 9 + 12 * 10 ** 38))
        for thing in (("one",), ("one", 9, 9), ["one", 9], ("ones", 9), ("one", (9,)), ("one", -3), ("one", 5),
                ("one", 15)):
            self.assert_neither(statement, thing)
        self.assert_no(("clash", ((0, 1),)), ("one", 0))
        self.assert_neither(("clash", ((0, 1),)), ("one", False))
        self.assert_neither(("clash", ((0, 1),)), ("one", True))
        for odd in ODD_THINGS:
            self.assert_neither(("clash", ((0, 1),)), ("one", odd))

    def test_other_forms(self):
        for thing in ANYTHING:
            for statement in (("clash", ((0, 2), (1, 2))), ("clash", ((0, 1),)), ("joined", ((0, 1),), 0, 1),
                    ("joined", ((0, 1),), 0, 2)):
                self.assert_neither(statement, thing)

    def test_of_what_is_no_statement(self):
        wrong = (("clash", ((0, 2), (True, 2))), ("clash", ((False, 2), (1, 2))), ("clash", [(0, 2), (1, 2)]),
                ("not", ("clash", ((0, 2), (1, 2)))), ("clash", ((0, 2), (1, 2)), 0), ["clash", ((0, 2), (1, 2))],
                ("clash", ((0, 2), (1, 2)) * 5), ("clash", ((0, 2), (3, 2))), ("joined", ((0, 2), (1, 2)), 0, 2), None)
        self.assert_only_statements(("clash", ((0, 2), (1, 2))), wrong, ("two", 0, 1, 2))
        wrong = (("clash", ()), ("clash", ((0, True),)), ("clash", ((False, 1),)), ("not", ("clash", ((0, 1),))),
                ("joined", ((0, 1),), 0, 1), ("clash", ((0, 1001),)))
        self.assert_only_statements(("clash", ((0, 1),)), wrong, ("one", 0))

    def test_by_names(self):
        for statement in (("joined", ((2, 3), (1, 4)), 5, 12), ("joined", ((2, 3), (1, 4)), 5, 24),
                ("joined", ((2, 3), (1, 4)), 6, 12), ("clash", ((0, 2), (1, 2))), ("clash", EIGHT)):
            self.assert_by_names(statement)


if __name__ == "__main__":
    unittest.main()
