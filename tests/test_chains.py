"""Chains, what is told of primes and of factors (9)."""

import itertools
import math
import unittest

from surenumbers.chains import chain_of, factors_of, is_chain
from tests.helpers import ANYTHING, ODD_THINGS, Kept, deep, is_right_chain

THREE = (3, 2, ((2, 1),))
FIVE = (5, 2, ((2, 2),))
SEVEN = (7, 3, ((2, 1), (3, 1)))
ELEVEN = (11, 2, ((2, 1), (5, 1)))
RIGHT = (THREE, FIVE, SEVEN, ELEVEN)

PRIMES = [number for number in range(2, 1000) if all(number % d for d in range(2, 32) if d < number)]


def product_of(factors):
    return math.prod(q ** e for q, e in factors)


class TestIsChain(Kept):
    def test_right_ones(self):
        for chain in ((), (THREE,), (FIVE,), (THREE, FIVE), (THREE, SEVEN), (FIVE, ELEVEN), RIGHT,
                ((5, 3, ((2, 2),)),)):
            self.assert_true(is_chain(chain))
            self.assert_true(is_right_chain(chain))
        self.assert_true(is_chain(((17, 3, ((2, 4),)), (257, 3, ((2, 8),)), (65537, 3, ((2, 16),)))))

    def test_rows_that_nothing_needs(self):
        self.assert_true(is_chain((THREE, FIVE, (17, 3, ((2, 4),)))))
        self.assert_true(is_chain((THREE, FIVE, SEVEN)))

    def test_every_row_of_small_numbers(self):
        ahead = (THREE, FIVE)
        exponents = [((2, a),) * (a > 0) + ((3, b),) * (b > 0) + ((5, c),
                ) * (c > 0) for a in range(5) for b in range(3) for c in range(2)]
        for p in range(-1, 34):
            for g in range(-1, p + 2):
                for factors in exponents:
                    self.assertIs(is_chain(ahead + ((p, g, factors),)), is_right_chain(ahead + ((p, g, factors),)))

    def test_p(self):
        self.assert_false(is_chain(((2, 1, ((2, 1),)),)))
        self.assert_false(is_chain(((2, 1, ()),)))
        self.assert_false(is_chain(((1, 1, ()),)))
        self.assert_false(is_chain(((4, 3, ((3, 1),)),)))
        self.assert_false(is_chain((THREE, (4, 3, ((3, 1),)))))
        self.assert_false(is_chain(((9, 2, ((2, 3),)),)))
        self.assert_false(is_chain(((9, 8, ((2, 3),)),)))
        self.assert_false(is_chain(((-3, 2, ((2, 1),)),)))
        self.assert_true(is_chain(chain_of((99991,))))

    def test_p_beyond_the_bound(self):
        # A prime whose row is right in all else.
        self.assertEqual(pow(10, 147456, 147457), 1)
        self.assertNotEqual(pow(10, 147456 // 2, 147457), 1)
        self.assertNotEqual(pow(10, 147456 // 3, 147457), 1)
        self.assert_false(is_chain((THREE, (147457, 10, ((2, 14), (3, 2))))))
        self.assert_true(is_chain((THREE, (12289, 11, ((2, 12), (3, 1))))))

    def test_composite_with_whatever_base(self):
        # Of 341 and 561, which look prime to some bases, no base and factors are let by.
        for p, factors in ((341, ((2, 2), (5, 1), (17, 1))), (561, ((2, 4), (5, 1), (7, 1))), (9, ((2, 3),)),
                (15, ((2, 1), (7, 1)))):
            ahead = tuple(row for row in chain_of(tuple(q for q, e in factors)) if row[0] < p)
            self.assertEqual(product_of(factors), p - 1)
            for g in range(2, p):
                self.assert_false(is_chain(ahead + ((p, g, factors),)))

    def test_not_rising(self):
        self.assert_false(is_chain((FIVE, THREE)))
        self.assert_false(is_chain((THREE, THREE)))
        self.assert_false(is_chain((THREE, SEVEN, FIVE)))
        self.assert_false(is_chain((THREE, SEVEN, SEVEN)))
        self.assert_false(is_chain((SEVEN, THREE)))

    def test_g(self):
        for g in range(-2, 10):
            self.assertIs(is_chain((THREE, (7, g, ((2, 1), (3, 1))))), g in (3, 5))
        self.assert_false(is_chain((THREE, (7, 3 + 7, ((2, 1), (3, 1))))))
        self.assert_false(is_chain((THREE, (7, 1, ((2, 1), (3, 1))))))
        self.assert_false(is_chain((THREE, (7, 6, ((2, 1), (3, 1))))))
        self.assert_false(is_chain((THREE, (7, 7, ((2, 1), (3, 1))))))
        self.assert_true(is_chain(((3, 2, ((2, 1),)),)))
        self.assert_false(is_chain(((3, 1, ((2, 1),)),)))
        self.assert_false(is_chain(((3, 3, ((2, 1),)),)))

    def test_no_root_by_one_q_alone(self):
        # By 7 - 1 = 2 * 3: 2 comes to 1 at 3, so 2 fails by q = 2 alone; 6 comes to 1 at 2, so it fails by q = 3 alone.
        self.assertEqual((pow(2, 3, 7), pow(2, 2, 7)), (1, 4))
        self.assert_false(is_chain((THREE, (7, 2, ((2, 1), (3, 1))))))
        self.assertEqual((pow(6, 3, 7), pow(6, 2, 7)), (6, 1))
        self.assert_false(is_chain((THREE, (7, 6, ((2, 1), (3, 1))))))
        rows = chain_of((31,))[:-1]
        failing = []
        for g in range(2, 31):
            at_one = [q for q in (2, 3, 5) if pow(g, 30 // q, 31) == 1]
            self.assertIs(is_chain(rows + ((31, g, ((2, 1), (3, 1), (5, 1))),)), at_one == [])
            failing.append(at_one)
        for alone in ([], [2], [3], [5]):
            self.assertIn(alone, failing)

    def test_factors_that_do_not_come_to_it(self):
        for factors in ((), ((2, 1),), ((3, 1),), ((2, 2), (3, 1)), ((2, 1), (3, 2)), ((2, 2),), ((3, 2),)):
            self.assert_false(is_chain((THREE, (7, 3, factors))))
        for factors in (((2, 1),), ((2, 3),), ((2, 1), (3, 1)), ((4, 1),)):
            self.assert_false(is_chain((THREE, (5, 2, factors))))

    def test_factors_not_rising(self):
        self.assert_false(is_chain((THREE, (7, 3, ((3, 1), (2, 1))))))
        self.assert_false(is_chain(((5, 2, ((2, 1), (2, 1))),)))
        self.assert_false(is_chain((THREE, (19, 2, ((2, 1), (3, 1), (3, 1))))))
        self.assert_true(is_chain((THREE, (19, 2, ((2, 1), (3, 2))))))

    def test_e(self):
        for times in (-1, 0, 1, 3, 130, 131, 10 ** 39):
            self.assert_false(is_chain(((5, 2, ((2, times),)),)))
        self.assert_false(is_chain((THREE, (5, 2, ((2, 2), (3, 0))))))
        self.assert_false(is_chain((THREE, FIVE, (5, 2, ((2, 2), (3, 0))))))
        self.assert_false(is_chain((THREE, (7, 3, ((2, 1), (3, 1), (5, 0))))))

    def test_a_q_that_is_no_row_ahead(self):
        self.assert_false(is_chain((SEVEN,)))
        self.assert_false(is_chain((FIVE, SEVEN)))
        self.assert_false(is_chain((THREE, ELEVEN)))
        self.assert_false(is_chain(((7, 3, ((6, 1),)),)))
        self.assert_false(is_chain((THREE, (7, 3, ((6, 1),)))))
        self.assert_false(is_chain(((17, 3, ((4, 2),)),)))
        self.assert_false(is_chain(((17, 3, ((16, 1),)),)))
        self.assert_false(is_chain((THREE, (37, 2, ((4, 1), (9, 1))))))
        self.assert_false(is_chain(((3, 2, ((1, 1), (2, 1))),)))
        self.assert_false(is_chain(((5, 2, ((-2, 2),)),)))

    def test_a_row_is_not_ahead_of_itself(self):
        self.assert_false(is_chain((SEVEN, THREE)))
        self.assert_false(is_chain(((3, 2, ((3, 1),)),)))

    def test_other_forms(self):
        for row in ((), (7,), (7, 3), (7, 3, ((2, 1), (3, 1)), 0), (((2, 1), (3, 1)), 3, 7), 7, None, True, "chain",
                [7, 3, ((2, 1), (3, 1))]):
            self.assert_false(is_chain((THREE, row)))
        for factors in (((2, 1), (3,)), ((2, 1), (3, 1, 1)), (2, 1, 3, 1), [(2, 1), (3, 1)], ([2, 1], (3, 1)),
                ((2, 1), 3), None, 6, "six"):
            self.assert_false(is_chain((THREE, (7, 3, factors))))
        self.assert_false(is_chain([]))
        self.assert_false(is_chain([THREE]))
        self.assert_false(is_chain(THREE))
        self.assert_false(is_chain(((THREE,),)))
        self.assert_false(is_chain(("chain", (THREE,))))

    def test_truths_are_no_numbers(self):
        # Each number of a right chain with something else in its place.
        for odd in ODD_THINGS + ("n", (), (1,)):
            self.assert_false(is_chain((THREE, (odd, 3, ((2, 1), (3, 1))))))
            self.assert_false(is_chain((THREE, (7, odd, ((2, 1), (3, 1))))))
            self.assert_false(is_chain((THREE, (7, 3, ((odd, 1), (3, 1))))))
            self.assert_false(is_chain((THREE, (7, 3, ((2, odd), (3, 1))))))
            self.assert_false(is_chain((THREE, (7, 3, ((2, 1), (3, odd))))))

    def test_great_wrong_things_are_told_soon(self):
        self.assert_false(is_chain(((10 ** 39, 10 ** 38, ((10 ** 38, 130),)),)))
        self.assert_false(is_chain(((99991, 2, tuple((q, 130) for q in range(2, 3000))),)))
        self.assert_false(is_chain(tuple((p, 2, ((2, 130),)) for p in range(3, 3000, 2))))

    def test_of_anything(self):
        for thing in ANYTHING:
            self.assertIs(is_chain(thing=thing), thing == ())
            self.assert_kept(is_chain, thing)
            self.assert_false(is_chain((thing,)))
            self.assert_false(is_chain(RIGHT + (thing,)))
        for depth in range(1, 25):
            self.assert_false(is_chain(deep(THREE, depth + 1)))
        self.assert_kept(is_chain, RIGHT)


class TestFactorsOf(Kept):
    def test_small_ones(self):
        self.assertEqual(factors_of(1), ())
        self.assertEqual(factors_of(2), ((2, 1),))
        self.assertEqual(factors_of(3), ((3, 1),))
        self.assertEqual(factors_of(4), ((2, 2),))
        self.assertEqual(factors_of(12), ((2, 2), (3, 1)))
        self.assertEqual(factors_of(number=360), ((2, 3), (3, 2), (5, 1)))

    def test_great_ones(self):
        self.assertEqual(factors_of(99999), ((3, 2), (41, 1), (271, 1)))
        self.assertEqual(factors_of(99991), ((99991, 1),))
        self.assertEqual(factors_of(65536), ((2, 16),))
        self.assertEqual(factors_of(30030), ((2, 1), (3, 1), (5, 1), (7, 1), (11, 1), (13, 1)))
        self.assertEqual(factors_of(313 * 313), ((313, 2),))
        self.assertEqual(factors_of(59049), ((3, 10),))

    def test_each_number(self):
        composite = {n for d in range(2, 317) for n in range(d * d, 100000, d)}
        for number in range(1, 100000):
            rows = factors_of(number)
            self.assertEqual(product_of(rows), number)
            primes = [p for p, e in rows]
            self.assertEqual(primes, sorted(set(primes)))
            self.assertFalse(composite & set(primes))
            self.assertTrue(all(e >= 1 for p, e in rows))
        self.assertIs(type(rows), tuple)
        self.assertIs(type(rows[0]), tuple)


class TestChainOf(Kept):
    def assert_chain_of(self, primes):
        chain = chain_of(primes)
        self.assert_true(is_chain(chain))
        self.assertIs(is_right_chain(chain), True)
        self.assertLessEqual({p for p in primes if p != 2}, {row[0] for row in chain})
        self.assertLessEqual(len(chain), math.prod(primes).bit_length())
        return chain

    def test_small_ones(self):
        self.assertEqual(chain_of(()), ())
        self.assertEqual(chain_of((2,)), ())
        self.assertEqual(chain_of((3,)), (THREE,))
        self.assertEqual(chain_of(primes=(2, 3)), (THREE,))
        self.assertEqual(len(chain_of((5, 2))), 1)

    def test_each_prime(self):
        composite = {n for d in range(2, 317) for n in range(d * d, 100000, d)}
        for prime in range(3, 100000):
            if prime not in composite and (prime < 3000 or prime > 99000 or prime % 7 == 1):
                chain = self.assert_chain_of((prime,))
                self.assertEqual(chain[-1][0], prime)

    def test_several(self):
        for primes in ((99991, 99989), (2, 3, 5, 7, 11, 13, 17, 19), (99991, 2, 3), (65537, 257, 17, 5, 3)):
            self.assert_chain_of(primes)
            self.assert_chain_of(primes[::-1])
        eight = (99991, 99989, 99971, 99961, 99929, 99923, 99907, 99901)
        told = self.assert_chain_of(eight)
        for at in range(8):
            self.assertEqual(self.assert_chain_of(eight[at:] + eight[:at]), told)

    def test_small_primes_together(self):
        for many in (2, 3):
            for primes in itertools.permutations(PRIMES[:9], many):
                self.assert_chain_of(primes)
        for at in range(0, len(PRIMES) - 8):
            self.assert_chain_of(tuple(PRIMES[at:at + 8]))

    def test_kept(self):
        self.assert_kept(chain_of, (7, 5, 99991, 2))
        self.assert_kept(factors_of, 99999)


if __name__ == "__main__":
    unittest.main()
