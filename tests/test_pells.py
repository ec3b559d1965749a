"""Certificates of pell (14)."""

import math
import unittest
from fractions import Fraction

from surenumbers.pells import pell_denies, pell_made, pell_shows
from tests.helpers import ANYTHING, ODD_THINGS, Judged, has_form

# The least solutions, of which those of 61 and 109 are well known for their greatness.
KNOWN = {
    2: (3, 2), 3: (2, 1), 5: (9, 4), 6: (5, 2), 7: (8, 3), 8: (3, 1), 10: (19, 6), 11: (10, 3), 12: (7, 2),
    13: (649, 180), 46: (24335, 3588), 61: (1766319049, 226153980), 109: (158070671986249, 15140424455100),
    991: (379516400906811930638014896080, 12055735790331359447442538767),
}


def least_by_trying(d):
    """The least solution, gone through one by one."""
    y = 1
    while True:
        x = math.isqrt(d * y * y + 1)
        if x * x == d * y * y + 1:
            return x, y
        y += 1


def least_of(d):
    """The least solution by another way than rows: one step behind another, nearest to the root (chakravala)."""
    a, b = math.isqrt(d), 1
    k = a * a - d
    while k != 1 or b == 0:
        first = -a * pow(b, -1, abs(k)) % abs(k) if abs(k) > 1 else 0
        root = math.isqrt(d)
        low = root - (root - first) % abs(k)
        m = min((x for x in (low, low + abs(k)) if x > 0), key=lambda x: abs(x * x - d))
        a, b, k = (a * m + d * b) // abs(k), (a + b * m) // abs(k), (m * m - d) // k
    return a, b


def next_solution(d, one, least):
    return one[0] * least[0] + d * one[1] * least[1], one[0] * least[1] + one[1] * least[0]


def is_square(d):
    return math.isqrt(d) ** 2 == d


def due_yes(statement, thing):
    """Point 14 word by word, for yes."""
    d, x, y = statement[1:]
    if not has_form(thing, ("rows", [(int, int, int)])) or len(thing[1]) == 0:
        return False
    rows = thing[1]
    w = math.isqrt(d)
    if rows[0] != (0, 1, w):
        return False
    for (m, k, q), behind in zip(rows, rows[1:]):
        m = q * k - m
        k = (d - m * m) // k
        if behind != (m, k, (w + m) // k):
            return False
    last = len(rows) - 1
    ones = [at for at, (m, k, q) in enumerate(rows) if at >= 2 and at % 2 == 0 and k == 1]
    if ones != [last]:
        return False
    worth = Fraction(rows[-2][2])
    for m, k, q in rows[-3::-1]:
        worth = q + 1 / worth
    return (worth.numerator, worth.denominator) == (x, y)


def due_no(statement, thing):
    d, x, y = statement[1:]
    if has_form(thing, ("other",)):
        return x * x - d * y * y != 1
    if not has_form(thing, ("sooner", int, int)):
        return False
    return 2 <= thing[1] <= x - 1 and thing[2] >= 1 and thing[1] ** 2 - d * thing[2] ** 2 == 1


class TestPell(Judged):
    shows = staticmethod(pell_shows)
    denies = staticmethod(pell_denies)
    made = staticmethod(pell_made)

    def assert_all_due(self, statement, is_so):
        thing = self.assert_made(statement, is_so)
        self.assert_as_due(statement, thing, due_yes, due_no)
        return thing

    def assert_about(self, d, least):
        """What is told of the least solution, the next one, and numbers beside them."""
        x, y = least
        self.assertEqual(x * x - d * y * y, 1)
        self.assertEqual(self.assert_made(("pell", d, x, y), True)[0], "rows")
        second = next_solution(d, least, least)
        third = next_solution(d, second, least)
        for u, v in (second, third):
            self.assertEqual(self.assert_made(("pell", d, u, v), False), ("sooner", x, y))
        for u, v in ((x + 1, y), (x - 1, y), (x, y + 1), (x, y - 1), (y, x), (second[0], y), (x, second[1])):
            if u >= 2 and v >= 1 and (u, v) != least:
                self.assertEqual(self.assert_made(("pell", d, u, v), False), ("other",))

    def test_both_ways_are_the_same(self):
        for d in range(2, 61):
            if not is_square(d):
                self.assertEqual(least_of(d), least_by_trying(d))
        for d in KNOWN:
            self.assertEqual(least_of(d), KNOWN[d])

    def test_known_ones(self):
        for d in KNOWN:
            self.assert_about(d, KNOWN[d])

    def test_each_small_d(self):
        for d in range(2, 400):
            if not is_square(d):
                self.assert_about(d, least_of(d))

    def test_greater_ones(self):
        for d in list(range(980, 1040)) + list(range(99980, 100000)) + [94 * 94 + 1, 315 * 315 - 1, 315 * 315 + 1,
                99855, 99857, 98596 + 314]:
            if not is_square(d):
                self.assert_about(d, least_of(d))
        greatest = max(least_of(d)[0] for d in range(99900, 100000))
        self.assertGreater(greatest, 10 ** 200)

    def test_every_small_one(self):
        for d in range(2, 18):
            if is_square(d):
                continue
            least = least_of(d)
            for x in range(2, 40):
                for y in range(1, 20):
                    self.assert_made(("pell", d, x, y), (x, y) == least)

    def test_spoilt(self):
        for d in (2, 3, 5, 6, 7, 13, 61, 14, 94):
            x, y = least_of(d)
            self.assert_all_due(("pell", d, x, y), True)
            self.assert_all_due(("pell", d, *next_solution(d, (x, y), (x, y))), False)
            self.assert_all_due(("pell", d, x + 1, y), False)

    def test_rows(self):
        self.assert_yes(("pell", 2, 3, 2), ("rows", ((0, 1, 1), (1, 1, 2), (1, 1, 2))))
        self.assert_yes(("pell", 3, 2, 1), ("rows", ((0, 1, 1), (1, 2, 1), (1, 1, 2))))
        seven = ("rows", ((0, 1, 2), (2, 3, 1), (1, 2, 1), (1, 3, 1), (2, 1, 4)))
        self.assert_yes(("pell", 7, 8, 3), seven)
        for statement in (("pell", 7, 9, 3), ("pell", 7, 8, 2), ("pell", 7, 127, 48), ("pell", 7, 3, 8),
                ("pell", 7, 16, 6), ("pell", 2, 3, 2), ("pell", 63, 8, 1)):
            self.assert_false(pell_shows(statement, seven))
        self.assert_false(pell_shows(("pell", 2, 17, 12), ("rows", ((0, 1, 1), (1, 1, 2), (1, 1, 2)))))

    def test_a_row_too_few_or_too_many(self):
        for d in (2, 3, 5, 7, 13, 61):
            x, y = least_of(d)
            w = math.isqrt(d)
            rows = self.assert_made(("pell", d, x, y), True)[1]
            more = list(rows)
            for _ in range(3 * len(rows)):
                m, k, q = more[-1]
                m = q * k - m
                k = (d - m * m) // k
                more.append((m, k, (w + m) // k))
            second = next_solution(d, (x, y), (x, y))
            for many in range(len(more)):
                told = ("rows", tuple(more[:many]))
                self.assertIs(self.is_yes(("pell", d, x, y), told), many == len(rows))
                # The whole way round once more ends at the next solution, which isn't the least one.
                self.assert_false(pell_shows(("pell", d, *second), told))

    def test_an_odd_period(self):
        # Of 13 the fifth row has 1, too, but an odd number: there x * x - d * y * y is -1.
        rows = self.assert_made(("pell", 13, 649, 180), True)[1]
        self.assertEqual([at for at, row in enumerate(rows) if row[1] == 1], [0, 5, 10])
        self.assertEqual(18 * 18 - 13 * 5 * 5, -1)
        self.assert_neither(("pell", 13, 18, 5), ("rows", rows[:6]))
        self.assert_neither(("pell", 13, 649, 180), ("rows", rows[:6]))
        self.assertEqual(self.assert_made(("pell", 13, 18, 5), False), ("other",))

    def test_truths_and_lists(self):
        statement = ("pell", 2, 3, 2)
        for rows in (
            ((False, 1, 1), (1, 1, 2), (1, 1, 2)), ((0, True, 1), (1, 1, 2), (1, 1, 2)),
            ((0, 1, True), (1, 1, 2), (1, 1, 2)), ((0, 1, 1), (True, 1, 2), (1, 1, 2)),
            ((0, 1, 1), (1, 1, 2), (1, True, 2)), [(0, 1, 1), (1, 1, 2), (1, 1, 2)], ((0, 1, 1), [1, 1, 2], (1, 1, 2)),
            ((0, 1, 1), (1, 1, 2), (1, 1)), ((0, 1, 1), (1, 1, 2), (1, 1, 2, 0)), ((0, 1, 1), (1, 1, 2), None),
            (), ((0, 1, 1),), ((0, 1, 1), (1, 1, 2)), None, 0, ((1, 1, 2), (1, 1, 2), (1, 1, 2)),
            ((0, 1, 2), (1, 1, 2), (1, 1, 2)), ((0, 1, 1), (1, 1, 2), (1, 1, 3)), ((0, 1, 1), (1, 1, 2), (2, 1, 2)),
            ((0, 2, 1), (1, 1, 2), (1, 1, 2)), ((0, 0, 0), (0, 0, 0), (0, 1, 0)),
        ):
            self.assert_neither(statement, ("rows", rows))
        right = ((0, 1, 1), (1, 1, 2), (1, 1, 2))
        for thing in (("rows",), ("rows", right, 0), ["rows", right], ("row", right), right, ("rows", *right)):
            self.assert_neither(statement, thing)
        for odd in ODD_THINGS:
            self.assert_neither(statement, ("rows", odd))

    def test_other(self):
        self.assert_no(("pell", 2, 3, 3), ("other",))
        self.assert_no(("pell", 2, 7, 5), ("other",))
        for statement in (("pell", 2, 3, 2), ("pell", 2, 17, 12), ("pell", 2, 99, 70)):
            self.assert_neither(statement, ("other",))
        for thing in (("other", 0), ["other"], "other", ("others",), (("other",),), ("other", 3, 2)):
            self.assert_neither(("pell", 2, 3, 3), thing)
        self.assert_no(("pell", 2, 10 ** 39, 10 ** 39), ("other",))

    def test_sooner(self):
        statement = ("pell", 2, 17, 12)
        told = [(u, v) for u in range(-18, 101) for v in range(-13, 72) if self.is_no(statement, ("sooner", u, v))]
        self.assertEqual(told, [(3, 2)])
        far = ("pell", 2, 577, 408)
        self.assert_no(far, ("sooner", 3, 2))
        self.assert_no(far, ("sooner", 17, 12))
        self.assert_no(far, ("sooner", 99, 70))
        for u, v in ((577, 408), (1, 0), (3, -2), (-3, 2), (3, 0), (2, 1), (576, 408), (99, 71), (7, 5), (3363, 2378)):
            self.assert_neither(far, ("sooner", u, v))
        self.assert_neither(("pell", 2, 3, 2), ("sooner", 3, 2))
        self.assert_neither(("pell", 3, 2, 1), ("sooner", 1, 0))
        # Whatever x and y are: what is sooner than x shows that x isn't the least one.
        self.assert_no(("pell", 2, 4, 2), ("sooner", 3, 2))
        self.assert_neither(("pell", 2, 3, 3), ("sooner", 3, 2))
        for odd in ODD_THINGS + ((3,),):
            self.assert_neither(statement, ("sooner", odd, 2))
            self.assert_neither(statement, ("sooner", 3, odd))
        self.assert_no(("pell", 3, 7, 4), ("sooner", 2, 1))
        self.assert_neither(("pell", 3, 7, 4), ("sooner", 2, True))
        for thing in (("sooner", 3), ("sooner", 3, 2, 0), ["sooner", 3, 2], ("soon", 3, 2), ("sooner", (3, 2))):
            self.assert_neither(statement, thing)

    def test_numbers_of_many_figures(self):
        d = 99979
        x, y = least_of(d)
        self.assertGreater(x, 10 ** 40)
        self.assert_made(("pell", d, x, y), True)
        thing = pell_made(("pell", d, x, y))[1]
        self.assert_neither(("pell", d, x + 1, y), thing)
        self.assert_neither(("pell", d, x, y + 1), thing)
        self.assert_neither(("pell", d, x, y), ("rows", thing[1][:-1]))
        self.assert_made(("pell", d, 10 ** 2000, 10 ** 1998), False)

    def test_other_forms(self):
        for thing in ANYTHING:
            for statement in (("pell", 2, 3, 2), ("pell", 2, 3, 3), ("pell", 2, 17, 12)):
                self.assert_neither(statement, thing)

    def test_of_what_is_no_statement(self):
        right = ("rows", ((0, 1, 1), (1, 2, 1), (1, 1, 2)))
        wrong = (("pell", 3, 2, True), ("not", ("pell", 3, 2, 1)), ["pell", 3, 2, 1], ("pell", 3, 2),
                ("pell", 3, 2, 1, 0), ("pell", "n", 2, 1), ("prime", 3), None)
        self.assert_only_statements(("pell", 3, 2, 1), wrong, right)
        wrong = (("pell", 4, 3, 1), ("pell", 1, 3, 1), ("pell", 0, 3, 1), ("pell", -2, 3, 1), ("pell", 100000, 3, 1),
                ("pell", 2, 1, 1), ("pell", 2, 3, 0), ("pell", 2, 3, True), ("not", ("pell", 2, 3, 1)), ("same", 1, 2))
        self.assert_only_statements(("pell", 2, 3, 1), wrong, ("other",))
        self.assert_only_statements(("pell", 3, 7, 4), (("not", ("pell", 3, 7, 4)), ("pell", 9, 7, 4)),
                ("sooner", 2, 1))
        self.assert_neither(("pell", 4, 3, 1), ("rows", ((0, 1, 1), (1, 3, 1), (2, 0, 0))))

    def test_by_names(self):
        for statement in (("pell", 2, 3, 2), ("pell", 2, 3, 3), ("pell", 2, 17, 12), ("pell", 61, 1766319049,
                226153980)):
            self.assert_by_names(statement)


if __name__ == "__main__":
    unittest.main()
