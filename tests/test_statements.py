"""Statements (6), what is put into them, which of their numbers are looked at (24)."""

import unittest

from surenumbers.statements import is_statement, looked_at, put_in
from surenumbers.things import is_thing
from tests.helpers import ANYTHING, Kept, deep

GREAT = 10 ** 12
ROOMY = 10 ** 39

SMALL_FACTORS = tuple((p, 1) for p in range(2, 32))

# Of each sort what is a statement, at its bounds too, and what is none, one beyond.
GOOD = {
    "same": (
        ("same", 1, 1), ("same", 0, -5), ("same", ("sum", 1, 2), ("power", 2, 60)),
        ("same", 10 ** 120 - 1, 1 - 10 ** 120),
        ("same", ("times", 10 ** 60, 10 ** 59), ROOMY), ("same", ("power", 0, 0), 1),
    ),
    "below": (("below", 1, 1), ("below", -ROOMY, ROOMY), ("below", ("less", 1, ("times", 2, 3)), 0)),
    "divides": (
        ("divides", 1, 0), ("divides", 7, 5), ("divides", GREAT, GREAT), ("divides", 1, GREAT), ("divides", GREAT, 0),
    ),
    "shared": (("shared", 0, 0, 0), ("shared", GREAT, GREAT, GREAT), ("shared", 12, 18, 5), ("shared", 0, 5, 0)),
    "prime": (("prime", 0), ("prime", 1), ("prime", 2), ("prime", 99999)),
    "factors": (
        ("factors", 1, ()), ("factors", 99999, ()), ("factors", 12, ((2, 2), (3, 1))), ("factors", 5, ((4, 1),)),
        ("factors", 1, ((2, 1),)), ("factors", 1, ((99999, 130),)), ("factors", 1, ((2, 130), (99999, 1))),
        ("factors", 1, SMALL_FACTORS), ("factors", 99999, tuple((p, 130) for p in range(99970, 100000))),
    ),
    "joined": (
        ("joined", ((0, 1),), 0, 1), ("joined", ((2, 3), (1, 4)), 5, 12),
        ("joined", ((999, 1000),) * 8, GREAT - 1, GREAT),
        ("joined", ((0, 1000),), 0, GREAT), ("joined", ((1, 2), (1, 2)), 4, 5),
    ),
    "clash": (("clash", ((0, 1),)), ("clash", ((0, 2), (1, 2))), ("clash", ((999, 1000),) * 8)),
    "order": (("order", 1, 2, 1), ("order", GREAT, GREAT, 99999), ("order", 2, 7, 3), ("order", 2, 4, 5)),
    "root": (("root", 1, 3), ("root", 2, 3), ("root", 99998, 99999), ("root", 1, 99999), ("root", 3, 9)),
    "square": (("square", 1, 3), ("square", 2, 3), ("square", 99998, 99999), ("square", 2, 9), ("square", 1, 99999)),
    "squares": (("squares", 2, 0), ("squares", 3, 99999), ("squares", 4, 5)),
    "row": (
        ("row", 0, 1, ()), ("row", GREAT, GREAT, (GREAT, -GREAT, 0)), ("row", 7, 3, (2, 3)),
        ("row", 1, 1, tuple(range(9990))),
    ),
    "pell": (
        ("pell", 2, 2, 1), ("pell", 3, 10 ** 999, 10 ** 999), ("pell", 99999, 2, 1), ("pell", 99998, 3, 7),
    ),
    "count": (("count", 0, 0), ("count", 2000, GREAT), ("count", 10, 4)),
    "table": (
        ("table", "many", (1,)), ("table", "total", (0, -1, 10 ** 999)), ("table", "least", tuple(range(200))),
        ("table", "many", (-(10 ** 999),) * 200),
    ),
    "not": (
        ("not", ("prime", 4)), ("not", ("same", 1, 2)), ("not", ("table", "many", (1, 2))),
        ("not", ("all", 0, 39, ("prime", "n"))), ("not", ("least", 0, ("prime", "n"), 2)),
        ("not", ("some", 2, 3, ("not", ("prime", "n")))),
    ),
    "all": (
        ("all", 0, 0, ("prime", "n")), ("all", 0, 39, ("prime", "n")), ("all", 5, 44, ("not", ("prime", "n"))),
        ("all", 0, 39, ("same", 1, 1)), ("all", 1, 3, ("same", ("times", "n", "n"), ("power", "n", 2))),
        ("all", GREAT - 39, GREAT, ("divides", 1, "n")), ("all", 99960, 99999, ("prime", "n")),
        ("all", 21, 60, ("same", ("power", 2, "n"), 1)),
        ("all", 2, 8, ("factors", 5, (("n", 1), (9, 1)))), ("all", 2, 4, ("squares", "n", "n")),
        ("all", 1, 2, ("table", "many", ("n", "n"))), ("all", 2, 3, ("pell", "n", "n", "n")),
        ("all", GREAT, GREAT, ("same", ("power", "n", 9), "n")),
    ),
    "some": (
        ("some", 0, 0, ("prime", "n")), ("some", 7, 46, ("square", 1, 5)), ("some", GREAT, GREAT, ("same", "n", "n")),
        ("some", 0, 39, ("below", "n", 40)), ("some", 1, 40, ("not", ("divides", "n", 7))),
    ),
    "least": (
        ("least", 0, ("prime", "n"), 0), ("least", 0, ("prime", "n"), 39), ("least", 9, ("not", ("prime", "n")), 48),
        ("least", GREAT - 39, ("divides", "n", "n"), GREAT), ("least", 2, ("count", "n", 1), 2),
    ),
}

BAD = {
    "same": (
        ("same", 10 ** 120, 1), ("same", 1, -(10 ** 120)), ("same", ("times", 0, 10 ** 120), 0),
        ("same", 1, ("power", 10, 61)),
        ("same", ("power", 10 ** 39, 60), 1), ("same", 1, ("less", ("sum", 10 ** 120 - 1, 1), 1)),
        ("same", 1, ("plus", 1, 1)),
        ("same", 1, ("sum", 1)), ("same", ("power", 2, -1), 1), ("same", 1, ("prime", 2)),
    ),
    "below": (("below", 10 ** 120, 1), ("below", 1, 10 ** 120), ("below", ("power", 100, 60), 1), ("below", (), 1)),
    "divides": (
        ("divides", 0, 1), ("divides", -1, 1), ("divides", 1, -1), ("divides", GREAT + 1, 1), ("divides", 1, GREAT + 1),
        ("divides", ("sum", 1, 1), 2),
    ),
    "shared": (
        ("shared", -1, 0, 0), ("shared", 0, -1, 0), ("shared", 0, 0, -1), ("shared", GREAT + 1, 0, 0),
        ("shared", 0, GREAT + 1, 0), ("shared", 0, 0, GREAT + 1),
    ),
    "prime": (("prime", -1), ("prime", 100000), ("prime", GREAT), ("prime", ("sum", 1, 1))),
    "factors": (
        ("factors", 0, ()), ("factors", 100000, ()), ("factors", -1, ()), ("factors", 6, ((3, 1), (2, 1))),
        ("factors", 4, ((2, 1), (2, 1))), ("factors", 1, ((1, 1),)), ("factors", 1, ((0, 1),)),
        ("factors", 1, ((-2, 1),)),
        ("factors", 1, ((100000, 1),)), ("factors", 1, ((2, 0),)), ("factors", 1, ((2, -1),)),
        ("factors", 1, ((2, 131),)),
        ("factors", 1, ((2, 1), (100000, 1))), ("factors", 1, SMALL_FACTORS + ((99, 1),)), ("factors", 2, (2,)),
        ("factors", 2, ((2,),)), ("factors", 2, ((2, 1, 1),)), ("factors", 2, 2), ("factors", 2, (2, 1)),
        ("factors", 2, ((2, 1), ())), ("factors", 6, ((2, 1), (3, 1), (3, 1))),
    ),
    "joined": (
        ("joined", (), 0, 1), ("joined", ((0, 1),) * 9, 0, 1), ("joined", ((0, 0),), 0, 1),
        ("joined", ((-1, 2),), 0, 1),
        ("joined", ((2, 2),), 0, 1), ("joined", ((0, 1001),), 0, 1), ("joined", ((0, -1),), 0, 1),
        ("joined", ((0, 2),), 0, 0),
        ("joined", ((0, 2),), 2, 2), ("joined", ((0, 2),), -1, 2), ("joined", ((0, 2),), 0, GREAT + 1),
        ("joined", ((0, 2),), GREAT, GREAT), ("joined", (0, 2), 0, 2), ("joined", ((0, 2, 1),), 0, 2),
        ("joined", ((0,),), 0, 2),
        ("joined", ((0, 2), (3, 3)), 0, 2), ("joined", 5, 0, 2), ("joined", ((0, 2),), 0, -1),
    ),
    "clash": (
        ("clash", ()), ("clash", ((0, 1),) * 9), ("clash", ((2, 2),)), ("clash", ((0, 1001),)), ("clash", ((0, 0),)),
        ("clash", ((-1, 1),)), ("clash", (0, 2)), ("clash", ((0, 2), (0, 0))),
    ),
    "order": (
        ("order", 0, 2, 1), ("order", 1, 1, 1), ("order", 1, 2, 0), ("order", GREAT + 1, 2, 1),
        ("order", 1, GREAT + 1, 1),
        ("order", 1, 2, 100000), ("order", -1, 2, 1), ("order", 1, -2, 1), ("order", 1, 2, -1),
    ),
    "root": (
        ("root", 0, 3), ("root", 3, 3), ("root", 1, 1), ("root", 1, 2), ("root", 1, 4), ("root", 1, 100001),
        ("root", 1, 99998),
        ("root", -1, 5), ("root", 4, 3), ("root", 0, 1), ("root", 1, -3),
    ),
    "square": (
        ("square", 0, 3), ("square", 3, 3), ("square", 1, 1), ("square", 1, 2), ("square", 1, 4), ("square", 1, 100001),
        ("square", 4, 3), ("square", 10, 9), ("square", 11, 9), ("square", 100000, 99999),
        ("square", 3, 9), ("square", 6, 9), ("square", 10, 15), ("square", 3, 99999), ("square", -1, 5),
        ("square", 1, -3),
    ),
    "squares": (
        ("squares", 1, 5), ("squares", 5, 5), ("squares", 0, 5), ("squares", -2, 5), ("squares", 2, -1),
        ("squares", 2, 100000),
    ),
    "row": (
        ("row", -1, 1, ()), ("row", 0, 0, ()), ("row", 0, -1, ()), ("row", GREAT + 1, 1, ()), ("row", 1, GREAT + 1, ()),
        ("row", 1, 1, (GREAT + 1,)), ("row", 1, 1, (1, -GREAT - 1)), ("row", 1, 1, 1), ("row", 1, 1, "abc"),
        ("row", 1, 1, ((1,),)),
    ),
    "pell": (
        ("pell", 1, 2, 1), ("pell", 0, 2, 1), ("pell", -2, 2, 1), ("pell", 4, 2, 1), ("pell", 9, 2, 1),
        ("pell", 99856, 2, 1),
        ("pell", 100000, 2, 1), ("pell", 2, 1, 1), ("pell", 2, 2, 0), ("pell", 2, -3, 2), ("pell", 2, 3, -2),
    ),
    "count": (("count", -1, 0), ("count", 2001, 0), ("count", 0, -1), ("count", 0, GREAT + 1)),
    "table": (
        ("table", "many", ()), ("table", "many", (1,) * 201), ("table", "most", (1,)), ("table", "n", (1,)),
        ("table", 1, (1,)),
        ("table", ("many",), (1,)), ("table", ["many"], (1,)), ("table", None, (1,)), ("table", "many", 1),
        ("table", "many", ((1,),)), ("table", "many", (1, "many")), ("table", "", (1,)),
    ),
    "not": (
        ("not", ("not", ("prime", 4))), ("not", ("not", ("not", ("prime", 4)))), ("not", ("prime", -1)), ("not", 5),
        ("not", ()),
        ("not", "prime"), ("not", ("prime", "n")), ("not", ("not", ("all", 0, 1, ("prime", "n")))),
        ("not", ("all", 0, 40, ("prime", "n"))),
    ),
    "all": (
        ("all", 0, 40, ("prime", "n")), ("all", 5, 45, ("same", 1, 1)), ("all", 1, 0, ("prime", "n")),
        ("all", -1, 0, ("same", 1, 1)),
        ("all", -2, -1, ("same", 1, 1)), ("all", GREAT, GREAT + 1, ("same", 1, 1)),
        ("all", GREAT + 1, GREAT + 1, ("same", 1, 1)),
        ("all", 99990, 100000, ("prime", "n")), ("all", 0, 3, ("divides", "n", 5)),
        ("all", 30, 61, ("same", ("power", 2, "n"), 1)),
        ("all", 2, 9, ("factors", 5, (("n", 1), (9, 1)))), ("all", 2, 5, ("squares", "n", "n")),
        ("all", 2, 4, ("pell", "n", 2, 1)),
        ("all", 0, 3, ("all", 0, 3, ("prime", "n"))), ("all", 0, 3, ("some", 0, 3, ("prime", 5))),
        ("all", 0, 3, ("least", 0, ("prime", 5), 3)), ("all", 0, 3, ("not", ("all", 0, 3, ("prime", 5)))),
        ("all", 0, 3, ("not", ("not", ("prime", "n")))), ("all", 0, 3, ("n", 5)), ("all", 0, 3, "n"), ("all", 0, 3, 5),
        ("all", 0, 3, ()),
        ("all", 0, 3, ("table", "n", (1,))), ("all", 0, 3, ("prime", "m")), ("all", 0, 3, ("prime", "N")),
        ("all", 0, 3, ("prime", "nn")),
        ("all", 0, 3, ["prime", "n"]), ("all", 0, 3, ("row", 1, 1, ["n"])), ("all", "n", 3, ("prime", 5)),
        ("all", 0, "n", ("prime", 5)),
        ("all", True, 3, ("prime", "n")), ("all", 0, True, ("prime", "n")), ("all", 0, 3, ("prime", True)),
        ("all", 0, ("prime", "n"), 3),
    ),
    "some": (
        ("some", 0, 40, ("prime", "n")), ("some", 3, 2, ("prime", "n")), ("some", -1, 2, ("same", 1, 1)),
        ("some", 0, 3, ("square", "n", 9)),
        ("some", GREAT, GREAT + 1, ("same", 1, 1)), ("some", 0, 3, ("some", 0, 3, ("prime", 5))),
        ("some", False, 3, ("prime", "n")),
        ("some", 0, 3, ("not", ("least", 0, ("prime", 5), 3))), ("some", 0, ("prime", "n"), 3),
        ("some", 0, 3, ("not", "n")),
    ),
    "least": (
        ("least", 0, ("prime", "n"), 40), ("least", 3, ("prime", "n"), 2), ("least", -1, ("same", 1, 1), 2),
        ("least", 0, 3, ("prime", "n")), ("least", 0, ("prime", "n"), "n"), ("least", GREAT, ("same", 1, 1), GREAT + 1),
        ("least", 0, ("divides", "n", 5), 3), ("least", 0, ("least", 0, ("prime", 5), 3), 3),
        ("least", 0, ("not", ("some", 0, 3, ("prime", 5))), 3),
        ("least", False, ("prime", "n"), 3), ("least", 0, ("prime", "n"), True),
        ("least", 99990, ("prime", "n"), 100000),
    ),
}

RANGES = ("all", "some", "least")


def holders(thing):
    """For each place in a thing a function that puts something else there, and what stands there now."""
    yield (lambda part: part), thing
    if isinstance(thing, tuple):
        for at, part in enumerate(thing[:12]):
            for holder, inner in holders(part):
                yield (lambda put, at=at, holder=holder: thing[:at] + (holder(put),) + thing[at + 1:]), inner


def has_range(statement):
    return statement[0] in RANGES or statement[0] == "not" and has_range(statement[1])


class TestIsStatement(Kept):
    def test_each_sort(self):
        for word, statements in GOOD.items():
            for statement in statements:
                with self.subTest(statement):
                    self.assertEqual(statement[0], word)
                    self.assert_true(is_statement(statement))
                    self.assert_true(is_thing(statement))

    def test_beyond_the_bounds(self):
        for word, things in BAD.items():
            for thing in things:
                with self.subTest(thing):
                    self.assertEqual(thing[0], word)
                    self.assert_false(is_statement(thing))
                    self.assert_false(is_statement(("not", thing)))

    def test_other_things_in_a_numbers_place(self):
        for statement in sum(GOOD.values(), ()):
            for holder, inner in list(holders(statement)):
                if type(inner) is int:
                    for odd in (True, False, "5", None, [1], {}, (inner,), [inner], (), "m"):
                        with self.subTest(statement, odd=odd):
                            self.assert_false(is_statement(holder(odd)))
                    if not has_range(statement):
                        self.assert_false(is_statement(holder("n")))

    def test_other_things_in_a_tuples_place(self):
        for statement in sum(GOOD.values(), ()):
            for holder, inner in list(holders(statement)):
                if isinstance(inner, tuple):
                    for odd in (list(inner), None, True, "x", {}, [inner]):
                        self.assert_false(is_statement(holder(odd)))

    def test_other_words(self):
        for statement in sum(GOOD.values(), ()):
            for word in ("", "Same", "n", "may", "primes", None, True, 1, (), ("prime",), ["prime"], {}):
                self.assert_false(is_statement((word,) + statement[1:]))

    def test_a_part_too_few_or_too_many(self):
        for statement in sum(GOOD.values(), ()):
            for at in range(len(statement)):
                self.assert_false(is_statement(statement[:at] + statement[at + 1:]))
            for more in (0, 1, "n", (), None, True):
                self.assert_false(is_statement(statement + (more,)))

    def test_bare_words(self):
        for word in GOOD:
            self.assert_false(is_statement((word,)))
            self.assert_false(is_statement(word))

    def test_each_pair_of_a_square_has_no_shared_divisor(self):
        for number in range(3, 60, 2):
            for rest in range(1, number):
                alone = all(rest % d or number % d for d in range(2, number))
                self.assertIs(is_statement(("square", rest, number)), alone)

    def test_each_d_of_a_pell_is_no_square(self):
        for number in range(2, 2000):
            self.assertIs(is_statement(("pell", number, 2, 1)), all(k * k != number for k in range(46)))

    def test_a_statement_at_some_of_the_numbers_only(self):
        for low in range(0, 12):
            for high in range(low, 12):
                told = is_statement(("all", low, high, ("order", 2, "n", 5)))
                self.assertIs(told, low >= 2)
                self.assertIs(is_statement(("some", low, high, ("squares", 2, "n"))), True)
                self.assertIs(is_statement(("least", low, ("row", 1, "n", ()), high)), low >= 1)

    def test_deep(self):
        term = 1
        for _ in range(23):
            term = ("sum", term, "n")
        self.assert_true(is_statement(("all", 0, 39, ("same", term, 1))))
        self.assert_false(is_statement(("same", term, 1)))
        for depth in range(25):
            self.assert_false(is_statement(deep(("prime", 5), depth + 1)))

    def test_of_anything(self):
        for thing in ANYTHING:
            self.assert_false(is_statement(thing=thing))
            self.assert_kept(is_statement, thing)
        for statement in sum(GOOD.values(), ()):
            self.assert_kept(is_statement, statement)


class TestPutIn(Kept):
    def test_every_n(self):
        self.assertEqual(put_in("n", 5), 5)
        self.assertEqual(put_in(("n",), -5), (-5,))
        self.assertEqual(put_in(("prime", "n"), 0), ("prime", 0))
        self.assertEqual(put_in(("n", ("n", "a", ("n", 1)), "n"), 7), (7, (7, "a", (7, 1)), 7))
        self.assertEqual(put_in(thing=("n", "m"), number=10 ** 39), (10 ** 39, "m"))

    def test_no_other_label(self):
        for thing in (0, 5, -5, (), "m", "nn", "an", "na", "prime", ("a", ("nn", 5), ()), ("not", ("prime", 5))):
            for number in (0, 3, -3):
                self.assertEqual(repr(put_in(thing, number)), repr(thing))

    def test_at_any_depth(self):
        for depth in range(26):
            for number in (0, 12, -12):
                self.assertEqual(put_in(deep("n", depth), number), deep(number, depth))
                self.assertEqual(put_in((1, deep(("n", "b"), depth)), number), (1, deep((number, "b"), depth)))

    def test_kept(self):
        self.assert_kept(put_in, ("all", 0, 3, ("prime", "n")), 5)
        for thing in ANYTHING:
            self.assert_kept(put_in, thing, 5)


class TestLookedAt(Kept):
    def assert_looked_at(self, statement, *numbers):
        with self.subTest(statement):
            self.assert_true(is_statement(statement))
            self.assertEqual(looked_at(statement), numbers)
            self.assertEqual(looked_at(statement=statement), numbers)
            self.assert_kept(looked_at, statement)
            if statement[0] != "not":
                self.assertEqual(looked_at(("not", statement)), numbers)

    def test_each_sort(self):
        self.assert_looked_at(("prime", 17), 17)
        self.assert_looked_at(("factors", 12, ((2, 2), (3, 1))), 12)
        self.assert_looked_at(("square", 2, 7), 7)
        self.assert_looked_at(("squares", 3, 14), 14)
        self.assert_looked_at(("root", 3, 7), 7)
        self.assert_looked_at(("order", 2, 9, 6), 6)
        self.assert_looked_at(("pell", 3, 20, 10), 3)

    def test_sorts_that_have_none(self):
        self.assert_looked_at(("same", 5, ("sum", 2, 3)))
        self.assert_looked_at(("below", 5, 7))
        self.assert_looked_at(("divides", 5, 7))
        self.assert_looked_at(("shared", 5, 7, 9))
        self.assert_looked_at(("joined", ((1, 2),), 3, 4))
        self.assert_looked_at(("clash", ((1, 2),)))
        self.assert_looked_at(("row", 5, 7, (1, 2)))
        self.assert_looked_at(("count", 5, 7))
        self.assert_looked_at(("table", "many", (5, 7)))
        self.assert_looked_at(("all", 0, 3, ("divides", 5, "n")))

    def test_ranges(self):
        self.assert_looked_at(("all", 3, 6, ("prime", "n")), 3, 4, 5, 6)
        self.assert_looked_at(("some", 9, 11, ("not", ("prime", "n"))), 9, 10, 11)
        self.assert_looked_at(("least", 2, ("prime", "n"), 4), 2, 3, 4)
        self.assert_looked_at(("all", 3, 6, ("prime", 7)), 7, 7, 7, 7)
        self.assert_looked_at(("some", 1, 3, ("order", "n", 7, 5)), 5, 5, 5)
        self.assert_looked_at(("least", 2, ("square", 1, 9), 2), 9)
        self.assert_looked_at(("all", 0, 39, ("squares", 2, "n")), *range(40))
        self.assert_looked_at(("all", 99998, 99999, ("prime", "n")), 99998, 99999)

    def test_not_of_a_not_in_a_range(self):
        self.assertEqual(looked_at(("not", ("some", 1, 2, ("not", ("prime", "n"))))), (1, 2))


if __name__ == "__main__":
    unittest.main()
