"""Certificates of order and root (9, 11)."""

import itertools
import math
import unittest

from surenumbers.chains import chain_of, factors_of
from surenumbers.orders import order_denies, order_made, order_shows
from tests.helpers import ANYTHING, ODD_THINGS, Judged, has_form, is_right_chain

GREAT = 10 ** 12
COMPOSITE = {n for d in range(2, 317) for n in range(d * d, 100000, d)}


def is_prime(number):
    return number > 1 and number not in COMPOSITE


def order_of(a, m):
    """The least number from 1 on at which a comes to 1 by m, gone through one by one; None where there is none."""
    if math.gcd(a, m) != 1:
        return None
    return next(k for k in itertools.count(1) if pow(a, k, m) == 1)


def denies_prime(p, thing):
    """Point 9, what is a no of a prime."""
    if has_form(thing, ("divisor", int)):
        return 2 <= thing[1] <= p - 1 and p % thing[1] == 0
    return has_form(thing, ("witness", int)) and 2 <= thing[1] <= p - 1 and pow(thing[1], p - 1, p) != 1


def due_yes(statement, thing):
    """Point 11 word by word, for yes."""
    if statement[0] == "root":
        g, p = statement[1:]
        if not (type(thing) is tuple and len(thing) == 2 and thing[0] == "chain" and is_right_chain(thing[1])):
            return False
        return len(thing[1]) > 0 and thing[1][-1][:2] == (p, g)
    a, m, k = statement[1:]
    if not (type(thing) is tuple and len(thing) == 3 and thing[0] == "by" and has_form(thing[1], [(int, int)])):
        return False
    factors, rows = thing[1:]
    qs = [q for q, e in factors]
    if not is_right_chain(rows) or qs != sorted(set(qs)) or not all(q in [2] + [row[0] for row in rows] for q in qs):
        return False
    if not all(1 <= e <= 130 for q, e in factors) or math.prod(q ** e for q, e in factors) != k:
        return False
    return pow(a, k, m) == 1 and all(pow(a, k // q, m) != 1 for q in qs)


def due_no(statement, thing):
    """Point 11 word by word, for no."""
    if statement[0] == "root":
        g, p = statement[1:]
        if type(thing) is tuple and len(thing) == 2 and thing[0] == "apart":
            return denies_prime(p, thing[1])
        return has_form(thing, ("sooner", int)) and 1 <= thing[1] <= p - 2 and pow(g, thing[1], p) == 1
    a, m, k = statement[1:]
    if has_form(thing, ("power",)):
        return pow(a, k, m) != 1
    return has_form(thing, ("sooner", int)) and 1 <= thing[1] <= k - 1 and pow(a, thing[1], m) == 1


class Ordered(Judged):
    shows = staticmethod(order_shows)
    denies = staticmethod(order_denies)
    made = staticmethod(order_made)

    def assert_all_due(self, statement, is_so):
        thing = self.assert_made(statement, is_so)
        self.assert_as_due(statement, thing, due_yes, due_no)
        return thing


class TestOrder(Ordered):
    def test_every_small_one(self):
        for m in range(2, 24):
            for a in range(1, 2 * m):
                right = order_of(a, m)
                for k in range(1, 26):
                    self.assert_made(("order", a, m, k), k == right)

    def test_every_small_certificate(self):
        factors = [factors_of(number) for number in range(1, 14)] + [((4, 1),), ((2, 1), (4, 1)), ((6, 1),)]
        rows = [chain_of(primes) for primes in ((), (3,), (5,), (3, 5), (7,), (11, 7))]
        for a, m, k in ((2, 7, 3), (2, 7, 6), (3, 7, 6), (1, 9, 1), (1, 9, 2), (2, 9, 6), (3, 9, 2), (10, 7, 6),
                (2, 15, 4), (2, 13, 12), (4, 13, 12), (2, 7, 5)):
            statement = ("order", a, m, k)
            due = order_of(a, m) == k
            for thing in itertools.product(("by",), factors, rows):
                told = self.is_yes(statement, thing)
                self.assertIs(told, due_yes(statement, thing))
                self.assertLessEqual(told, due)
            for thing in [("power",)] + [("sooner", j) for j in range(-2, k + 4)]:
                told = self.is_no(statement, thing)
                self.assertIs(told, due_no(statement, thing))
                self.assertLessEqual(told, not due)

    def test_spoilt(self):
        self.assert_all_due(("order", 2, 7, 3), True)
        self.assert_all_due(("order", 3, 7, 6), True)
        self.assert_all_due(("order", 2, 7, 6), False)
        self.assert_all_due(("order", 2, 6, 2), False)
        self.assert_all_due(("order", 1, 2, 1), True)
        self.assert_all_due(("order", 5, 99991, 99990), order_of(5, 99991) == 99990)
        self.assert_all_due(("order", 2, 10007, 10006), order_of(2, 10007) == 10006)

    def test_what_shares_a_divisor(self):
        for a, m in ((2, 4), (6, 9), (10, 15), (GREAT, 2), (7, 7), (14, 7)):
            for k in (1, 2, 3, 6, 99999):
                self.assertEqual(self.assert_all_due(("order", a, m, k), False), ("power",))

    def test_one(self):
        for m in (2, 3, 12, GREAT):
            self.assertEqual(self.assert_all_due(("order", 1, m, 1), True), ("by", (), ()))
            self.assert_all_due(("order", 1, m, 2), False)
            self.assert_all_due(("order", 1, m, 99999), False)
        self.assert_yes(("order", 8, 7, 1), ("by", (), ()))
        self.assert_yes(("order", 8, 7, 1), ("by", (), chain_of((7,))))
        self.assert_neither(("order", 8, 7, 2), ("by", (), ()))

    def test_a_above_m(self):
        self.assert_all_due(("order", 10, 7, 6), True)
        self.assert_all_due(("order", 9, 7, 3), True)
        self.assert_all_due(("order", 9, 7, 6), False)
        self.assert_all_due(("order", GREAT, 7, order_of(GREAT, 7)), True)

    def test_great_ones(self):
        for a, m in ((2, 99991), (3, 65537), (10, 99999), (2, 32767), (7, 8191 * 127), (999983, 999999999989)):
            right = order_of(a, m) if m < 10 ** 7 else None
            for k in (right, 99999, 99990, 1, 65536):
                if k is not None and k <= 99999:
                    self.assert_made(("order", a, m, k), k == right)
        self.assert_all_due(("order", 3, 65537, 65536), True)
        self.assert_all_due(("order", 3, 65537, 32768), False)
        self.assert_all_due(("order", GREAT - 1, GREAT, 2), True)
        self.assert_all_due(("order", GREAT - 1, GREAT, 4), False)
        self.assert_all_due(("order", GREAT, GREAT - 1, 1), True)

    def test_half_and_twice(self):
        right = order_of(2, 10007)
        self.assert_made(("order", 2, 10007, right), True)
        self.assertEqual(self.assert_made(("order", 2, 10007, 2 * right), False)[0], "sooner")
        self.assertEqual(right, 5003)
        self.assertEqual(self.assert_made(("order", 2, 10007, 7 * right), False)[0], "sooner")
        self.assertEqual(self.assert_made(("order", 2, 10007, 5002), False), ("power",))
        self.assertEqual(self.assert_made(("order", 3, 7, 3), False), ("power",))

    def test_by(self):
        statement = ("order", 2, 13, 12)
        factors = ((2, 2), (3, 1))
        self.assert_yes(statement, ("by", factors, chain_of((3,))))
        self.assert_yes(statement, ("by", factors, chain_of((3, 5, 7))))
        for spoilt_factors in ((), ((2, 2),), ((2, 1), (3, 1)), ((2, 3), (3, 1)), ((3, 1), (2, 2)), ((2, 2), (5, 1)),
                ((2, 1), (2, 1), (3, 1)), ((3, 1), (4, 1)), ((12, 1),), ((2, 2), (3, True)), [(2, 2), (3, 1)],
                ((2, 2), [3, 1]), ((2, 2), (3, 1), (5, 1)), ((1, 1), (2, 2), (3, 1)), ((2, 2), (3,)), 12, None):
            for rows in (chain_of((3,)), chain_of((3, 5)), chain_of((3, 5, 7, 11, 13))):
                self.assert_neither(statement, ("by", spoilt_factors, rows))
        for rows in ((), chain_of((5,)), chain_of((3,)) * 2, list(chain_of((3,))), chain_of((3, 5))[::-1], None, 3,
                ((3, 2, ((2, 1),)), 0), ((3, 1, ((2, 1),)),), ((3, True, ((2, 1),)),)):
            self.assert_neither(statement, ("by", factors, rows))
        for thing in (("by", factors), ("by", factors, chain_of((3,)), 0), ["by", factors, chain_of((3,))],
                ("bye", factors, chain_of((3,))), ("chain", chain_of((3,))), ("by", chain_of((3,)), factors)):
            self.assert_neither(statement, thing)

    def test_a_row_of_the_chain_is_left_out(self):
        statement = ("order", 5, 99991, order_of(5, 99991))
        word, factors, rows = self.assert_made(statement, True)
        needed = {q for q, e in factors}
        for at, row in enumerate(rows):
            self.assert_neither(statement, ("by", factors, rows[:at] + rows[at + 1:]))
            needed |= {q for q, e in row[2]}
        self.assertLessEqual({row[0] for row in rows}, needed)
        self.assert_yes(statement, ("by", factors, chain_of(tuple(row[0] for row in rows) + (65537,))))

    def test_sooner(self):
        statement = ("order", 2, 7, 12)
        self.assertEqual([j for j in range(-12, 30) if self.is_no(statement, ("sooner", j))], [3, 6, 9])
        self.assert_neither(("order", 2, 7, 3), ("sooner", 3))
        self.assert_neither(("order", 2, 7, 3), ("sooner", 0))
        self.assert_neither(("order", 1, 7, 1), ("sooner", 1))
        self.assert_neither(("order", 1, 7, 1), ("sooner", 0))
        self.assertEqual([j for j in range(-3, 9) if self.is_no(("order", 1, 7, 4), ("sooner", j))], [1, 2, 3])
        self.assert_no(("order", 2, 7, 4), ("sooner", 3))
        self.assert_no(("order", 2, 7, 4), ("power",))
        for odd in ODD_THINGS + ((1,), "n", 10 ** 39):
            self.assert_neither(("order", 1, 7, 4), ("sooner", odd))
        for thing in (("sooner",), ("sooner", 1, 1), ["sooner", 1], ("soon", 1)):
            self.assert_neither(("order", 1, 7, 4), thing)

    def test_power(self):
        self.assert_no(("order", 2, 7, 4), ("power",))
        self.assert_neither(("order", 2, 7, 3), ("power",))
        self.assert_neither(("order", 2, 7, 6), ("power",))
        for thing in (("power", 0), ["power"], "power", ("powers",), (("power",),)):
            self.assert_neither(("order", 2, 7, 4), thing)

    def test_told_chains_are_short(self):
        for p in (7, 10007, 65537, 99991, 99989, 98947):
            for a in (2, 3, 5, 6, 7, 10, 11):
                k = order_of(a, p)
                if k is not None:
                    word, factors, rows = self.assert_made(("order", a, p, k), True)
                    self.assertLessEqual(len(rows), k.bit_length())

    def test_each_k_has_a_short_chain(self):
        # 2 comes to 1 by 2 ** k - 1 at k first.
        for k in range(2, 40):
            word, factors, rows = self.assert_made(("order", 2, 2 ** k - 1, k), True)
            self.assertLessEqual(len(rows), k.bit_length())
            self.assertEqual(factors, factors_of(k))

    def test_of_what_is_no_statement(self):
        wrong = (("order", True, 7, 1), ("order", 8, 7, True), ("not", ("order", 8, 7, 1)), ["order", 8, 7, 1],
                ("order", 8, 7), ("order", 8, 1, 1), ("order", GREAT + 1, 7, 1), ("order", 8, 7, 0), ("root", 8, 7),
                ("all", 1, 1, ("order", 8, 7, 1)), None, ("factors", 1, ()))
        self.assert_only_statements(("order", 8, 7, 1), wrong, ("by", (), ()))
        wrong = (("order", True, 7, 4), ("order", 1, 7, 100000), ("not", ("order", 1, 7, 4)), ("order", 1, True, 4),
                ("order", 0, 7, 4), ("order", "n", 7, 4))
        self.assert_only_statements(("order", 1, 7, 4), wrong, ("sooner", 1))
        self.assert_only_statements(("order", 2, 7, 4), (("order", 2, 7, -1), ("not", ("order", 2, 7, 3)),
                ("order", 2, GREAT + 1, 4), ("root", 2, 7)), ("power",))


class TestRoot(Ordered):
    def test_every_small_one(self):
        for p in range(3, 62, 2):
            for g in range(1, p):
                powers = {pow(g, k, p) for k in range(1, p + 1)}
                is_so = is_prime(p) and powers == set(range(1, p))
                thing = self.assert_made(("root", g, p), is_so)
                if is_so:
                    self.assertLessEqual(len(thing[1]), p.bit_length())

    def test_spoilt(self):
        for g, p in ((2, 3), (1, 3), (2, 5), (4, 5), (3, 7), (2, 7), (6, 7), (2, 11), (3, 9), (1, 9), (2, 9), (5, 15),
                (2, 341), (2, 561), (2, 13)):
            is_so = is_prime(p) and order_of(g, p) == p - 1
            self.assert_all_due(("root", g, p), is_so)

    def test_great_ones(self):
        for p in (99991, 99989, 65537, 99999, 99997, 10007):
            for g in (1, 2, 3, 5, 7, 10, p - 2, p - 1):
                is_so = is_prime(p) and order_of(g, p) == p - 1
                thing = self.assert_made(("root", g, p), is_so)
                if is_so:
                    self.assertLessEqual(len(thing[1]), p.bit_length())
                elif not is_prime(p):
                    self.assertEqual(thing[0], "apart")
        self.assert_all_due(("root", 3, 65537), True)
        self.assert_all_due(("root", 2, 65537), False)

    def test_edges(self):
        self.assert_yes(("root", 2, 3), ("chain", ((3, 2, ((2, 1),)),)))
        self.assert_no(("root", 1, 3), ("sooner", 1))
        self.assert_neither(("root", 2, 3), ("sooner", 1))
        self.assert_neither(("root", 2, 3), ("sooner", 2))
        self.assert_no(("root", 6, 7), ("sooner", 2))
        self.assert_no(("root", 1, 7), ("sooner", 5))
        self.assert_neither(("root", 1, 7), ("sooner", 6))

    def test_none_by_one_divisor_alone(self):
        # 12 is 2 * 2 * 3: 4 fails by 2 alone, 5 by 3 alone.
        self.assertEqual((order_of(4, 13), order_of(5, 13), order_of(2, 13)), (6, 4, 12))
        rows = chain_of((13,))
        for g in range(1, 13):
            chain = rows[:-1] + ((13, g, ((2, 2), (3, 1))),)
            told = self.is_yes(("root", g, 13), ("chain", chain))
            self.assertIs(told, order_of(g, 13) == 12)
            self.assert_made(("root", g, 13), order_of(g, 13) == 12)

    def test_another_last_row(self):
        # 2, 6, 7 and 11 are all roots of 13.
        for g in (2, 6, 7, 11):
            chain = chain_of((13,))[:-1] + ((13, g, ((2, 2), (3, 1))),)
            for other in (2, 6, 7, 11):
                self.assertIs(self.is_yes(("root", other, 13), ("chain", chain)), g == other)
        self.assert_neither(("root", 2, 13), ("chain", chain_of((13, 17))))
        self.assert_neither(("root", 2, 13), ("chain", chain_of((11,))))
        self.assert_neither(("root", 2, 5), ("chain", chain_of((5, 13))))
        self.assert_yes(("root", 2, 13), ("chain", chain_of((3, 5, 7, 11, 13))))
        self.assert_neither(("root", 2, 13), ("chain", chain_of((13,))[1:]))
        self.assert_neither(("root", 2, 13), ("chain", ()))
        self.assert_neither(("root", 2, 13), ("chain", list(chain_of((13,)))))
        self.assert_neither(("root", 2, 13), ("chain", chain_of((13,)), 0))
        self.assert_neither(("root", 2, 13), ["chain", chain_of((13,))])
        self.assert_neither(("root", 2, 13), chain_of((13,)))
        self.assert_neither(("root", 1, 3), ("chain", ((3, 1, ((2, 1),)),)))
        self.assert_neither(("root", 1, 3), ("chain", ((3, True, ((2, 1),)),)))

    def test_apart(self):
        self.assert_no(("root", 2, 9), ("apart", ("divisor", 3)))
        self.assert_no(("root", 2, 9), ("apart", ("witness", 2)))
        for thing in (("apart", ("few",)), ("apart", ("divisor", 2)), ("apart", ("divisor", 9)),
                ("apart", ("divisor", 1)), ("apart", ("witness", 8)), ("apart", ("witness", 1)), ("apart",),
                ("apart", ("divisor", 3), 0), ["apart", ("divisor", 3)], ("apart", ["divisor", 3]),
                ("apart", ("part", 0, ("divisor", 3))), ("apart", ("product",)), ("divisor", 3), ("witness", 2),
                ("apart", ("apart", ("divisor", 3))), ("part", ("divisor", 3)), ("apart", ("divisor", True))):
            self.assert_neither(("root", 2, 9), thing)
        for thing in (("few",), ("divisor", 7), ("divisor", 1), ("witness", 2), ("witness", 6)):
            self.assert_neither(("root", 3, 7), ("apart", thing))
            self.assert_neither(("root", 2, 7), ("apart", thing))
        # 341 looks prime by 2, 561 by all that share nothing with it.
        self.assert_neither(("root", 2, 341), ("apart", ("witness", 2)))
        self.assert_no(("root", 2, 341), ("apart", ("witness", 3)))
        self.assert_no(("root", 2, 561), ("apart", ("divisor", 17)))
        self.assert_neither(("root", 2, 561), ("apart", ("witness", 2)))
        for odd in ODD_THINGS:
            self.assert_neither(("root", 2, 9), ("apart", odd))
            self.assert_neither(("root", 2, 9), ("apart", ("divisor", odd)))
            self.assert_neither(("root", 2, 9), ("apart", ("witness", odd)))

    def test_sooner(self):
        self.assertEqual([j for j in range(-9, 20) if self.is_no(("root", 3, 13), ("sooner", j))], [3, 6, 9])
        self.assertEqual([j for j in range(-9, 20) if self.is_no(("root", 2, 13), ("sooner", j))], [])
        self.assertEqual([j for j in range(-9, 20) if self.is_no(("root", 1, 7), ("sooner", j))], [1, 2, 3, 4, 5])
        # Of what is no prime a power that comes to 1 sooner is a no, too.
        self.assertEqual([j for j in range(-9, 20) if self.is_no(("root", 2, 9), ("sooner", j))], [6])
        for odd in ODD_THINGS + ((1,), 10 ** 39):
            self.assert_neither(("root", 1, 7), ("sooner", odd))
        for thing in (("sooner",), ("sooner", 1, 1), ["sooner", 1], ("power",), ("by", (), ())):
            self.assert_neither(("root", 1, 7), thing)

    def test_other_forms(self):
        for thing in ANYTHING:
            for statement in (("root", 2, 3), ("root", 1, 3), ("root", 2, 9), ("order", 2, 7, 3), ("order", 2, 7, 4)):
                self.assert_neither(statement, thing)

    def test_of_what_is_no_statement(self):
        three = ("chain", ((3, 2, ((2, 1),)),))
        wrong = (("root", True, 3), ("root", 2, True), ("not", ("root", 2, 3)), ["root", 2, 3], ("root", 2, 3, 0),
                ("root", 3, 3), ("root", 2), ("prime", 3), ("factors", 3, ((3, 1),)), ("order", 2, 3, 2), None)
        self.assert_only_statements(("root", 2, 3), wrong, three)
        wrong = (("root", True, 7), ("root", 1, 8), ("root", 1, 100001), ("root", 0, 7), ("not", ("root", 1, 7)),
                ("root", "n", 7))
        self.assert_only_statements(("root", 1, 7), wrong, ("sooner", 1))
        self.assert_only_statements(("root", 2, 9), (("root", 10, 9), ("root", 2, 12), ("not", ("root", 2, 9)),
                ("prime", 9), ("order", 2, 9, 6)), ("apart", ("divisor", 3)))

    def test_by_names(self):
        for statement in (("order", 2, 7, 3), ("order", 2, 7, 4), ("order", 2, 7, 6), ("root", 3, 7), ("root", 2, 7),
                ("root", 2, 9)):
            self.assert_by_names(statement)


if __name__ == "__main__":
    unittest.main()
