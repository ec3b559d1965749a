"""Certificates of prime and factors (9)."""

import math
import unittest

from surenumbers.chains import chain_of, factors_of, is_chain
from surenumbers.primes import prime_denies, prime_made, prime_shows
from tests.helpers import ANYTHING, ODD_THINGS, Judged

COMPOSITE = {n for d in range(2, 317) for n in range(d * d, 100000, d)}


def is_prime(number):
    return number > 1 and number not in COMPOSITE


class Primed(Judged):
    shows = staticmethod(prime_shows)
    denies = staticmethod(prime_denies)
    made = staticmethod(prime_made)


class TestPrime(Primed):
    def test_each_number(self):
        for number in list(range(0, 3000)) + list(range(97000, 100000)):
            thing = self.assert_made(("prime", number), is_prime(number))
            if is_prime(number):
                self.assertEqual(thing[0], "chain")
                self.assertLessEqual(len(thing[1]), number.bit_length())

    def test_each_number_has_the_right_side(self):
        for number in range(100000):
            self.assertEqual(prime_made(("prime", number))[0], "yes" if is_prime(number) else "no")

    def test_yes(self):
        self.assert_yes(("prime", 2), ("chain", ()))
        for number in (3, 5, 7, 97, 99991):
            self.assert_yes(("prime", number), ("chain", chain_of((number,))))
            self.assert_yes(("prime", number), ("chain", chain_of(tuple(p for p in (3, 5, number) if p <= number))))

    def test_another_numbers_chain(self):
        for number in (0, 1, 3, 4, 5, 341, 561, 99991, 99999):
            self.assert_neither(("prime", number), ("chain", ()))
        self.assert_neither(("prime", 2), ("chain", chain_of((3,))))
        self.assert_neither(("prime", 3), ("chain", chain_of((3, 5))))
        self.assert_neither(("prime", 5), ("chain", chain_of((3,))))
        self.assert_neither(("prime", 7), ("chain", chain_of((7, 11))))
        self.assert_neither(("prime", 15), ("chain", chain_of((3, 5))))

    def test_spoilt_chains(self):
        rows = chain_of((99991,))
        for at, (p, g, factors) in enumerate(rows):
            for row in ((p, 1, factors), (p, p - 1, factors), (p + 2, g, factors), (p, g, factors[1:]), (p, g),
                    (p, True, factors)):
                spoilt = rows[:at] + (row,) + rows[at + 1:]
                if not is_chain(spoilt):
                    self.assert_neither(("prime", 99991), ("chain", spoilt))
            if at + 1 < len(rows):
                self.assert_neither(("prime", 99991), ("chain", rows[:at] + rows[at + 1:]))
        self.assert_neither(("prime", 99991), ("chain", rows[:-1]))
        self.assert_neither(("prime", 99991), ("chain", rows[::-1]))
        self.assert_neither(("prime", 99991), ("chain", list(rows)))
        self.assert_neither(("prime", 99991), ["chain", rows])
        self.assert_neither(("prime", 99991), ("chain", rows, 0))
        self.assert_neither(("prime", 99991), ("chain",) + rows)
        self.assert_neither(("prime", 99991), ("chains", rows))
        self.assert_neither(("prime", 99991), rows)

    def test_a_chain_is_spoilt_by_each_number(self):
        rows = chain_of((7,))
        self.assertEqual(rows, ((3, 2, ((2, 1),)), (7, 3, ((2, 1), (3, 1)))))
        for row in ((7, 2, ((2, 1), (3, 1))), (7, 6, ((2, 1), (3, 1))), (7, 3, ((2, 2), (3, 1))),
                (7, 3, ((2, 1), (5, 1))), (7, 3, ((2, 1),))):
            self.assert_neither(("prime", 7), ("chain", (rows[0], row)))

    def test_few(self):
        self.assert_no(("prime", 0), ("few",))
        self.assert_no(("prime", 1), ("few",))
        for number in (2, 3, 4, 341, 561, 99991, 99999):
            self.assert_neither(("prime", number), ("few",))
        for thing in (("few", 0), ["few"], "few", ("fewer",), (("few",),)):
            self.assert_neither(("prime", 0), thing)

    def test_divisors(self):
        for number in (0, 1, 2, 3, 4, 9, 12, 341, 561, 97):
            for divisor in range(-3, number + 3):
                due = 2 <= divisor <= number - 1 and number % divisor == 0
                self.assertEqual(self.is_no(("prime", number), ("divisor", divisor)), due)
                self.assert_false(prime_shows(("prime", number), ("divisor", divisor)))
        self.assert_no(("prime", 99999), ("divisor", 271))
        self.assert_neither(("prime", 99999), ("divisor", 2))
        self.assert_neither(("prime", 99991), ("divisor", 99991))
        self.assert_neither(("prime", 99991), ("divisor", 1))

    def test_witnesses(self):
        for number in (0, 1, 2, 3, 4, 9, 15, 97, 341, 561):
            for base in range(-2, number + 3):
                due = 2 <= base <= number - 1 and pow(base, number - 1, number) != 1
                self.assertEqual(self.is_no(("prime", number), ("witness", base)), due)
                self.assert_false(prime_shows(("prime", number), ("witness", base)))
        self.assertEqual(pow(2, 340, 341), 1)
        self.assert_neither(("prime", 341), ("witness", 2))
        self.assert_no(("prime", 341), ("witness", 3))
        # 561 is such that only bases that share a divisor with it are witnesses.
        self.assert_neither(("prime", 561), ("witness", 2))
        self.assert_no(("prime", 561), ("witness", 3))
        self.assert_no(("prime", 99999), ("witness", 2))
        self.assert_neither(("prime", 99991), ("witness", 2))

    def test_no_other_forms(self):
        for thing in ANYTHING + (("divisor",), ("divisor", 3, 3), ["divisor", 3], ("divisors", 3), ("witness",),
                ("witness", 2, 2), ["witness", 2]):
            self.assert_neither(("prime", 99999), thing)
            self.assert_neither(("prime", 97), thing)
            self.assert_neither(("prime", 0), thing)
            self.assert_neither(("prime", 2), thing)
        for odd in ODD_THINGS + ((3,), "n"):
            self.assert_neither(("prime", 99999), ("divisor", odd))
            self.assert_neither(("prime", 99999), ("witness", odd))
            self.assert_neither(("prime", 97), ("chain", odd))
            if odd != ():
                self.assert_neither(("prime", 2), ("chain", odd))

    def test_of_what_is_no_statement(self):
        for wrong in (("prime", True), ("prime", False), ("prime", -1), ("prime", 100000), ("prime", "n"), ("prime",),
                ("prime", 0, 0), ["prime", 0], None):
            for thing in (("few",), ("divisor", 2), ("witness", 2), ("chain", ())):
                self.assert_neither(wrong, thing)
        for wrong in (("not", ("prime", 4)), ("not", ("prime", 2)), ("same", 4, 4), ("divides", 2, 4),
                ("all", 4, 4, ("prime", "n")), ("count", 2, 1)):
            for thing in (("few",), ("divisor", 2), ("witness", 2), ("chain", ()), ("product",)):
                self.assert_neither(wrong, thing)


class TestFactors(Primed):
    def test_each_number(self):
        for number in list(range(1, 2000)) + list(range(99000, 100000)):
            rows = factors_of(number)
            thing = self.assert_made(("factors", number, rows), True)
            self.assertEqual(thing[0], "chain")
            self.assertLessEqual(len(thing[1]), number.bit_length())

    def test_all_small_rows(self):
        # All rows of small p and e, prime or not: what is told is on the right side.
        for p in range(2, 10):
            for e in range(1, 4):
                for number in range(1, 40):
                    self.assert_made(("factors", number, ((p, e),)), is_prime(p) and p ** e == number)
                for q in range(p + 1, 11):
                    for number in {p ** e * q, p ** e, q, 36, 1}:
                        due = is_prime(p) and is_prime(q) and p ** e * q == number
                        self.assert_made(("factors", number, ((p, e), (q, 1))), due)

    def test_no_rows(self):
        self.assert_yes(("factors", 1, ()), ("chain", ()))
        self.assert_yes(("factors", 1, ()), ("chain", chain_of((7,))))
        self.assert_no(("factors", 2, ()), ("product",))
        self.assert_neither(("factors", 2, ()), ("chain", ()))
        self.assert_neither(("factors", 1, ()), ("product",))
        self.assert_neither(("factors", 1, ()), ("part", 0, ("few",)))

    def test_yes(self):
        statement = ("factors", 360, ((2, 3), (3, 2), (5, 1)))
        self.assert_yes(statement, ("chain", chain_of((3, 5))))
        self.assert_yes(statement, ("chain", chain_of((3, 5, 7, 11))))
        for thing in (("chain", ()), ("chain", chain_of((3,))), ("chain", chain_of((5,))), ("chain", chain_of((3, 7))),
                chain_of((3, 5)), ("chain",)):
            self.assert_neither(statement, thing)
        self.assert_neither(statement, ("chain", chain_of((3, 5))[::-1]))
        self.assert_neither(statement, ("chain", list(chain_of((3, 5)))))
        self.assert_neither(statement, ("chain", chain_of((3, 5)), 0))
        self.assert_neither(statement, ["chain", chain_of((3, 5))])
        self.assert_yes(("factors", 8, ((2, 3),)), ("chain", ()))
        self.assert_yes(("factors", 99999, ((3, 2), (41, 1), (271, 1))), ("chain", chain_of((271, 41, 3))))
        self.assert_yes(("factors", 99991, ((99991, 1),)), ("chain", chain_of((99991,))))

    def test_another_product(self):
        for rows in (((2, 3), (3, 2)), ((2, 3), (3, 2), (5, 2)), ((2, 4), (3, 2), (5, 1)), ((2, 130),),
                ((2, 3), (3, 2), (7, 1)), ((99999, 130),)):
            statement = ("factors", 360, rows)
            self.assert_no(statement, ("product",))
            self.assert_neither(statement, ("chain", chain_of((3, 5, 7))))
            self.assertEqual(self.assert_made(statement, False), ("product",))
        self.assert_neither(("factors", 360, ((2, 3), (3, 2), (5, 1))), ("product",))
        for thing in (("product", 0), ["product"], "product", ("products",)):
            self.assert_neither(("factors", 5, ()), thing)
        great = ("factors", 99999, tuple((p, 130) for p in range(99970, 100000)))
        self.assert_made(great, False)

    def test_a_part_that_is_no_prime(self):
        statement = ("factors", 36, ((4, 1), (9, 1)))
        self.assert_no(statement, ("part", 0, ("divisor", 2)))
        self.assert_no(statement, ("part", 1, ("divisor", 3)))
        self.assert_no(statement, ("part", 0, ("witness", 2)))
        self.assert_no(statement, ("part", 1, ("witness", 2)))
        self.assert_neither(statement, ("product",))
        self.assert_neither(statement, ("chain", chain_of((3, 5))))
        for thing in (
            ("part", 0, ("divisor", 3)), ("part", 1, ("divisor", 2)), ("part", -1, ("divisor", 3)),
            ("part", -2, ("divisor", 2)), ("part", 2, ("divisor", 2)),
            ("part", 0, ("few",)), ("part", 0, ("divisor", 4)), ("part", 0), ("part", 0, ("divisor", 2), 0),
            ["part", 0, ("divisor", 2)],
            ("parts", 0, ("divisor", 2)), ("part", ("divisor", 2), 0), ("part", 0, ["divisor", 2]),
            ("part", 0, ("part", 0, ("divisor", 2))), ("divisor", 2),
            ("part", 0, ("product",)), ("part", 10 ** 39, ("divisor", 2)),
        ):
            self.assert_neither(statement, thing)

    def test_a_part_of_another_product(self):
        statement = ("factors", 35, ((4, 1), (9, 1)))
        self.assert_no(statement, ("product",))
        self.assert_no(statement, ("part", 1, ("divisor", 3)))

    def test_truths_are_no_places(self):
        statement = ("factors", 36, ((4, 1), (9, 1)))
        self.assert_neither(statement, ("part", False, ("divisor", 2)))
        self.assert_neither(statement, ("part", True, ("divisor", 3)))
        for odd in ODD_THINGS:
            self.assert_neither(statement, ("part", odd, ("divisor", 2)))
            self.assert_neither(statement, ("part", 0, odd))
            self.assert_neither(statement, ("part", 0, ("divisor", odd)))

    def test_a_prime_part(self):
        statement = ("factors", 12, ((3, 1), (4, 1)))
        self.assert_neither(statement, ("part", 0, ("divisor", 2)))
        self.assert_neither(statement, ("part", 0, ("witness", 2)))
        self.assertEqual(self.assert_made(statement, False)[:2], ("part", 1))
        for number in (341, 561, 99999):
            self.assertEqual(self.assert_made(("factors", number, ((number, 1),)), False)[:2], ("part", 0))

    def test_anything(self):
        for thing in ANYTHING:
            self.assert_neither(("factors", 36, ((4, 1), (9, 1))), thing)
            self.assert_neither(("factors", 36, ((2, 2), (3, 2))), thing)
            self.assert_neither(("factors", 35, ((2, 2), (3, 2))), thing)

    def test_of_what_is_no_statement(self):
        for wrong in (
            ("factors", True, ()), ("factors", 2, ((2, True),)), ("factors", 0, ()), ("factors", 4, ((2, 1), (2, 1))),
            ("factors", 6, ((3, 1), (2, 1))),
            ("factors", 1, []), ("factors", 2, ([2, 1],)), ("not", ("factors", 1, ())), ("factors", 1),
            ["factors", 1, ()], ("factors", 100000, ()),
        ):
            for thing in (("chain", ()), ("chain", chain_of((3,))), ("product",), ("part", 0, ("divisor", 2))):
                self.assert_neither(wrong, thing)

    def test_by_names(self):
        for statement in (("prime", 99991), ("prime", 99999), ("prime", 1), ("factors", 36, ((4, 1), (9, 1))),
                ("factors", 36, ((2, 2), (3, 2))), ("factors", 1, ((2, 1),))):
            self.assert_by_names(statement)

    def test_products_of_many_primes(self):
        rows = factors_of(30030)
        self.assertEqual(math.prod(p ** e for p, e in rows), 30030)
        self.assert_made(("factors", 30030, rows), True)


if __name__ == "__main__":
    unittest.main()
