"""Open terms and their polynomials (18)."""

import itertools
import unittest

from surenumbers.polys import is_open, poly_of
from surenumbers.terms import is_term
from surenumbers.things import size_of
from tests.helpers import ANYTHING, ODD_THINGS, Kept, spoilt

LETTERS = ("a", "b", "n", "power", "sum")


def weight_due(term):
    """The weight of a term with letters, word by word."""
    if not isinstance(term, tuple):
        return 1
    word, t, u = term
    if word == "power":
        return u * weight_due(t) if u else 1
    return weight_due(t) + weight_due(u) if word == "times" else max(weight_due(t), weight_due(u))


def parts_of(term):
    """The term and all terms in it."""
    yield term
    if isinstance(term, tuple):
        for part in term[1:]:
            yield from parts_of(part)


def numbered(thing, letters):
    """The thing with a number for each letter that stands in a number's place."""
    if type(thing) is str and thing in letters:
        return 1
    if type(thing) is tuple and len(thing) == 3 and thing[0] != "power":
        return (thing[0], numbered(thing[1], letters), numbered(thing[2], letters))
    if type(thing) is tuple and len(thing) == 3:
        return (thing[0], numbered(thing[1], letters), thing[2])
    return thing


def is_open_due(thing, letters):
    if not is_term(numbered(thing, letters)):
        return False
    return all(size_of(part) <= 60 and weight_due(part) <= 6 for part in parts_of(thing))


def worth_due(term, worths):
    """What a term with letters comes to, however great."""
    if isinstance(term, str):
        return worths[term]
    if not isinstance(term, tuple):
        return term
    word, t, u = term
    t = worth_due(t, worths)
    if word == "power":
        return t ** u
    u = worth_due(u, worths)
    return {"sum": t + u, "less": t - u, "times": t * u}[word]


def sums(many):
    """A sum of so many terms, one in another: its size is 2 * many - 1."""
    term = "a"
    for _ in range(many - 1):
        term = ("sum", term, 1)
    return term


def product(many):
    term = "a"
    for _ in range(many - 1):
        term = ("times", term, "b")
    return term


OPEN = [
    0, -5, 10 ** 39, "a", "n", "power", "sum", ("sum", "a", "b"), ("less", "a", 1), ("times", "a", -3),
    ("power", "a", 0), ("power", "a", 6), ("power", ("times", "a", "b"), 3), ("sum", "sum", "sum"),
    ("power", "power", 2), ("times", "power", ("sum", "sum", "power")), ("power", ("power", "a", 2), 3),
    ("power", ("power", ("power", "a", 6), 0), 6), ("power", product(6), 0), ("power", 3, 6), product(6),
    ("sum", product(6), ("power", "b", 6)), ("times", product(3), ("sum", product(3), "a")),
    ("power", ("sum", ("sum", "a", "b"), ("sum", "n", 1)), 6), sums(30), ("power", sums(29), 1),
    ("power", ("sum", sums(20), "b"), 6), ("power", ("less", "a", "a"), 0), ("power", 0, 0),
]

NOT_OPEN = [
    "c", "nn", "", "A", "times", "less", True, False, None, [], ["sum", "a", "b"], {"a": 1}, (), ("a",), ("a", "b"),
    ("sum", "a"), ("sum", "a", "b", "n"), ("sums", "a", "b"), ("a", "b", "n"), ("sum", "a", "c"), ("sum", "a", True),
    ("sum", "a", None), ("sum", "a", ["b"]), ("sum", "a", ()), ("power", "a", "n"), ("power", "a", "power"),
    ("power", 2, "a"), ("power", "a", 7), ("power", "a", 61), ("power", "a", -1), ("power", "a", True),
    ("power", "a", False), ("power", "a", 60), ("power", 2, 7), ("power", "c", 0), ("power", ("power", "a", 7), 0),
    ("power", product(7), 0), ("power", "a", ("sum", 1, 1)), ("power", ("times", "a", "b"), 4), product(7),
    ("times", product(3), product(4)), ("sum", "a", product(7)), ("less", product(7), 1), ("times", ("power", 2, 3),
            ("power", 3, 4)), ("power", ("power", "a", 2), 4), sums(31), ("power", sums(30), 1), ("power", "a", 0, 0),
    ("sum", sums(30), 0), ("times", 1, sums(30)),
]


class TestOpen(Kept):
    def test_open(self):
        for term in OPEN:
            self.assert_true(is_open(term, LETTERS))

    def test_not_open(self):
        for thing in NOT_OPEN:
            self.assert_false(is_open(thing, LETTERS))

    def test_sizes(self):
        # The size of each term with letters is uneven, so none has 60: 59 and 61 are the bounds that can be met.
        self.assertEqual([size_of(term) for term in (sums(30), sums(31))], [59, 61])
        self.assert_true(is_open(sums(30), ("a",)))
        self.assert_false(is_open(sums(31), ("a",)))
        self.assert_true(is_open(("power", sums(29), 6), ("a",)))
        self.assert_false(is_open(("power", sums(30), 6), ("a",)))
        self.assert_false(is_open(("power", sums(30), 0), ("a",)))

    def test_by_letters(self):
        self.assert_true(is_open(5, ()))
        self.assert_true(is_open(("sum", 1, 2), ()))
        self.assert_false(is_open("a", ()))
        self.assert_false(is_open("sum", ()))
        self.assert_false(is_open(("sum", "sum", 1), ("power",)))
        self.assert_true(is_open(("sum", "sum", 1), ("sum",)))
        self.assert_true(is_open("power", ("power", "sum")))
        self.assert_true(is_open(("power", "power", 3), ("power", "sum")))
        self.assert_false(is_open(("power", 3, "power"), ("power", "sum")))

    def test_anything(self):
        for letters in ((), ("n",), LETTERS):
            for thing in ANYTHING + ODD_THINGS:
                self.assertIs(is_open(thing, letters), is_open_due(thing, letters), (thing, letters))
            for thing in OPEN + NOT_OPEN:
                self.assertIs(is_open(thing, letters), is_open_due(thing, letters), (thing, letters))

    def test_spoilt(self):
        for term in OPEN[:-7]:
            for thing in spoilt(term):
                self.assertIs(is_open(thing, LETTERS), is_open_due(thing, LETTERS), thing)

    def test_kept(self):
        for thing in OPEN + NOT_OPEN:
            self.assert_kept(is_open, thing, LETTERS)
        self.assert_true(is_open(letters=("a",), thing="a"))


class TestPolynomials(Kept):
    def assert_poly(self, term, letters, due):
        self.assertEqual(poly_of(term, letters), due)
        self.assertEqual(repr(poly_of(term, letters)), repr(due))

    def test_without_letters(self):
        self.assert_poly(5, (), (((), 5),))
        self.assert_poly(-5, (), (((), -5),))
        self.assert_poly(0, (), ())
        self.assert_poly(("less", ("power", 2, 5), ("times", 4, 8)), (), ())
        self.assert_poly(("power", 0, 0), (), (((), 1),))

    def test_with_letters(self):
        self.assert_poly("b", ("a", "b"), (((0, 1), 1),))
        self.assert_poly(7, ("a", "b"), (((0, 0), 7),))
        self.assert_poly(("less", "a", "a"), ("a",), ())
        self.assert_poly(("less", "a", "b"), ("a", "b"), (((0, 1), -1), ((1, 0), 1)))
        self.assert_poly(("power", ("sum", "a", "b"), 2), ("a", "b"), (((0, 2), 1), ((1, 1), 2), ((2, 0), 1)))
        self.assert_poly(("times", ("sum", "a", 1), ("less", "a", 1)), ("a",), (((0,), -1), ((2,), 1)))
        self.assert_poly(("power", ("less", "a", "a"), 0), ("a",), (((0,), 1),))
        self.assert_poly(("power", ("less", "a", "a"), 2), ("a",), ())
        self.assert_poly(("power", ("sum", "a", 10 ** 39), 2), ("a",), (((0,), 10 ** 78), ((1,), 2 * 10 ** 39),
                ((2,), 1)))
        self.assert_poly(("times", 0, "a"), ("a",), ())

    def test_letters_called_as_words(self):
        self.assert_poly(("sum", "sum", "power"), ("power", "sum"), (((0, 1), 1), ((1, 0), 1)))
        self.assert_poly(("power", "power", 3), ("power", "sum"), (((3, 0), 1),))

    def test_order(self):
        # As Python compares tuples of numbers: (0, 10) would be behind (0, 9), (1, 0) behind both.
        rows = poly_of(("sum", ("power", "b", 6), ("sum", ("power", "a", 2), ("times", "a", "b"))), ("a", "b"))
        self.assertEqual([powers for powers, factor in rows], [(0, 6), (1, 1), (2, 0)])

    def test_worths(self):
        for term in OPEN:
            rows = poly_of(term, LETTERS)
            powers = [row[0] for row in rows]
            self.assertEqual(powers, sorted(set(powers)))
            self.assertTrue(all(type(row) is tuple and len(row) == 2 and len(row[0]) == 5 and row[1] for row in rows))
            for worths in itertools.product((-2, 0, 3), (1, 5), (-1, 7), (2, 11), (-3, 4)):
                due = worth_due(term, dict(zip(LETTERS, worths)))
                told = 0
                for many, factor in rows:
                    for worth, times in zip(worths, many):
                        factor *= worth ** times
                    told += factor
                self.assertEqual(told, due, term)

    def test_kept(self):
        for term in OPEN:
            self.assert_kept(poly_of, term, LETTERS)
        self.assertEqual(poly_of(letters=("a",), term="a"), (((1,), 1),))


if __name__ == "__main__":
    unittest.main()
