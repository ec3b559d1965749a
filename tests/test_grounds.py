"""Entries, and what they need (19)."""

import unittest

from surenumbers.claims import is_claim, put_claim, working_holds
from surenumbers.grounds import is_entry, needs
from surenumbers.judging import yes_holds
from surenumbers.kinds import MOST
from surenumbers.making import made
from surenumbers.pells import fraction_of, pell_rows
from surenumbers.statements import is_statement, put_in
from surenumbers.things import is_thing, size_of
from tests.entries import (COMPOSITE, ENTRIES, HOPELESS, LEAST_TABLE, MANY_TABLE, NEEDS, PASSED_ON, PLAIN, RANGE, SOME,
        SQUARED, TURNED, fact, judged)
from tests.examples import EXAMPLES
from tests.helpers import ANYTHING, ODD_THINGS, Kept, deep, spoilt


def is_ground_due(thing):
    """The grounds and their parts, word by word."""
    if type(thing) is not tuple or not thing or type(thing[0]) is not str:
        return False
    word, *parts = thing
    kinds = [type(part) for part in parts]
    if word == "judged":
        return len(parts) == 1 and is_thing(parts[0])
    if word == "claim":
        return len(parts) == 2 and is_claim(parts[0]) and kinds[1] is tuple and all(type(w) is int for w in parts[1])
    if word in ("at", "row"):
        return len(parts) == 2 and is_statement(parts[0]) and kinds[1] is int
    if word in ("found", "spread"):
        return kinds == [int]
    return word == "each" and not parts or word == "narrow" and kinds == [int, int]


def is_entry_due(thing):
    if type(thing) is not tuple or len(thing) != 3:
        return False
    word, what, ground = thing
    if word == "claim":
        return is_claim(what) and is_thing(ground)
    return word == "fact" and is_statement(what) and is_ground_due(ground)


def row_due(word, r, n):
    """The statements that a row r of n tells."""
    if word == "many":
        return [("prime", n) if r == 2 else ("not", ("prime", n))]
    if word == "least":
        told = [("prime", n) if r == n and n != 1 else ("not", ("prime", n))]
        return told + [("divides", r, n)] * (r >= 1)
    return []


def needs_due(entry):
    """What an entry needs, word by word."""
    word, what, ground = entry
    if word == "claim":
        return () if working_holds(what, ground) else None
    sort = what[0]
    match ground:
        case ("judged", thing):
            return () if yes_holds(what, thing, most=10 ** 9) else None
        case ("claim", claim, worths):
            if len(worths) == len(claim[0]):
                givens, goal = put_claim(claim, worths)
                if goal == what and all(map(is_statement, givens + (goal,))):
                    return (claim,) + givens
        case ("at", whole, j):
            if whole[0] == "all" and j in range(whole[1], whole[2] + 1) and put_in(whole[3], j) == what:
                return (whole,)
        case ("found", j):
            if sort == "some" and j in range(what[1], what[2] + 1):
                return (put_in(what[3], j),)
        case ("each",):
            if sort == "all":
                return tuple(put_in(what[3], j) for j in range(what[1], what[2] + 1))
        case ("spread", j):
            if sort == "all" and j in range(what[1], what[2]):
                return (("all", what[1], j, what[3]), ("all", j + 1, what[2], what[3]))
        case ("narrow", low, high):
            if sort == "all" and low <= what[1] and high >= what[2] and is_statement(("all", low, high, what[3])):
                return (("all", low, high, what[3]),)
        case ("row", table, n):
            if table[0] == "table" and 1 <= n <= len(table[2]) and what in row_due(table[1], table[2][n - 1], n):
                return (table,)
    return None


SPOILT_GROUNDS = {
    "judged": ("judged", ("walk",)), "claim": ("claim", TURNED, (5,)), "at": ("at", RANGE, 8), "found": ("found", 8),
    "each": ("each",), "spread": ("spread", 8), "narrow": ("narrow", 8, 10), "row": ("row", MANY_TABLE, 3),
}


class TestEntries(Kept):
    def test_entries(self):
        for entry in ENTRIES:
            self.assert_true(is_entry(entry))
            self.assertTrue(is_entry_due(entry))
            self.assertTrue(is_thing(entry))

    def test_any_statement_with_any_ground(self):
        statements = [statement for statement, is_so in EXAMPLES] + [RANGE, SOME, ("not", RANGE)]
        for statement in statements:
            for ground in SPOILT_GROUNDS.values():
                self.assert_true(is_entry(("fact", statement, ground)))
            for word in ("at", "row"):
                self.assert_true(is_entry(fact(("prime", 7), word, statement, -5)))

    def test_bounds_are_no_matter(self):
        for number in (0, -1, 10 ** 39, -(10 ** 39)):
            for ground in (("found", number), ("spread", number), ("narrow", number, number), ("at", RANGE, number),
                    ("row", RANGE, number), ("claim", PLAIN, (number,)), ("judged", number)):
                self.assert_true(is_entry(("fact", ("prime", 7), ground)))

    def test_wrong_grounds(self):
        for ground in SPOILT_GROUNDS.values():
            for thing in (*spoilt(ground), *ANYTHING):
                entry = ("fact", ("prime", 7), thing)
                self.assertIs(is_entry(entry), is_ground_due(thing), thing)

    def test_wrong_parts(self):
        for word in ("found", "spread", "narrow", "at", "row"):
            ground = SPOILT_GROUNDS[word]
            for at in range(1, len(ground)):
                for thing in ODD_THINGS + ((), (1,)):
                    spoilt_ground = ground[:at] + (thing,) + ground[at + 1:]
                    self.assert_false(is_entry(("fact", ("prime", 7), spoilt_ground)))
        for worths in ([], 5, None, (True,), ("a",), ((5,),), "a"):
            self.assert_false(is_entry(fact(("same", 5, 5), "claim", TURNED, worths)))
        for thing in ODD_THINGS + ((None,), (True,), ((1, [2]),)):
            self.assert_false(is_entry(fact(("prime", 7), "judged", thing)))
            self.assert_false(is_entry(("claim", PLAIN, thing)))

    def test_wrong_words(self):
        self.assert_false(is_entry(("claim", ("prime", 7), ("each",))))
        self.assert_false(is_entry(("fact", PLAIN, ())))
        self.assert_false(is_entry(("fact", PLAIN, ("each",))))
        self.assert_false(is_entry(("facts", ("prime", 7), ("each",))))
        self.assert_false(is_entry(("fact", ("prime", 7))))
        self.assert_false(is_entry(("fact", ("prime", 7), ("each",), 0)))
        self.assert_false(is_entry(["fact", ("prime", 7), ("each",)]))
        self.assert_false(is_entry(("fact", ["prime", 7], ("each",))))
        self.assert_false(is_entry(("fact", ("prime", True), ("each",))))
        self.assert_false(is_entry(("fact", ("prime", 7), ["each"])))
        self.assert_true(is_entry(("claim", PLAIN, ("each",))))
        self.assert_true(is_entry(("claim", PLAIN, deep(1, 20))))

    def test_spoilt(self):
        for entry in ENTRIES:
            for thing in spoilt(entry):
                self.assertIs(is_entry(thing), is_entry_due(thing), thing)

    def test_anything(self):
        for thing in ANYTHING:
            self.assert_false(is_entry(thing))

    def test_kept(self):
        for entry in ENTRIES:
            self.assert_kept(is_entry, entry)
        for thing in ANYTHING:
            self.assert_kept(is_entry, thing)
        self.assert_true(is_entry(thing=fact(("prime", 7), "each")))


class TestNeeds(Kept):
    def test_met(self):
        for entry, due in NEEDS:
            self.assertEqual(needs(entry), due, entry)
            self.assertEqual(needs_due(entry), due, entry)
            for what in due:
                self.assertTrue(is_statement(what) or is_claim(what), what)

    def test_not_met(self):
        for entry in HOPELESS:
            self.assertIsNone(needs(entry), entry)
            self.assertIsNone(needs_due(entry), entry)

    def test_spoilt(self):
        for entry in ENTRIES:
            for thing in spoilt(entry):
                if is_entry_due(thing):
                    self.assertEqual(needs(thing), needs_due(thing), thing)

    def test_judged(self):
        for statement, is_so in EXAMPLES:
            side, thing = made(statement, limit=10 ** 6)
            for word, other in (("yes", statement), ("no", ("not", statement))):
                self.assertEqual(needs(fact(other, "judged", thing)), () if word == side else None)

    def test_judged_of_great_size(self):
        first, second = fraction_of(pell_rows(99989))
        inner = ("pell", 99989, first, second)
        thing = made(inner, limit=99999)[1]
        whole = ("all", 1, 39, inner)
        self.assertGreater(size_of((thing,) * 38), MOST)
        self.assertEqual(needs(fact(whole, "judged", ("each", (thing,) * 39))), ())
        self.assertIsNone(needs(fact(whole, "judged", ("each", (thing,) * 38))))

    def test_claim_put_out_of_bounds(self):
        claim = (("a",), (("a", "a"),), (("times", "a", 0), 0))
        for worth in (10 ** 120 - 1, 1 - 10 ** 120):
            entry = fact(("same", ("times", worth, 0), 0), "claim", claim, (worth,))
            self.assertEqual(needs(entry), (claim, ("same", worth, worth)))
        # Here the goal is a statement, but a given is none.
        claim = (("a", "b"), (("b", "b"), ("a", 0)), ("a", 0))
        self.assertEqual(needs(fact(("same", 5, 0), "claim", claim, (5, 10 ** 119))), (claim,
                ("same", 10 ** 119, 10 ** 119), ("same", 5, 0)))
        for worth in (10 ** 120, -(10 ** 120)):
            self.assertIsNone(needs(fact(("same", 5, 0), "claim", claim, (5, worth))))

    def test_ranges_of_any_inner_thing(self):
        inner = ("divides", "n", 60)
        whole = ("all", 1, 5, inner)
        for j in range(0, 7):
            due = (whole,) if 1 <= j <= 5 else None
            self.assertEqual(needs(fact(("divides", max(j, 1), 60), "at", whole, j)), due)
            due = (("all", 1, j, inner), ("all", j + 1, 5, inner)) if 1 <= j <= 4 else None
            self.assertEqual(needs(fact(whole, "spread", j)), due)
            some = ("some", 1, 5, inner)
            self.assertEqual(needs(fact(some, "found", j)), (("divides", j, 60),) if 1 <= j <= 5 else None)
        for low in range(-1, 4):
            for high in (3, 4, 5, 39, 40, 41):
                due = (("all", low, high, inner),) if low == 1 and 5 <= high <= 40 else None
                self.assertEqual(needs(fact(whole, "narrow", low, high)), due)

    def test_narrow_at_the_greatest(self):
        inner = ("divides", 1, "n")
        whole = ("all", 10 ** 12 - 1, 10 ** 12, inner)
        self.assertEqual(needs(fact(whole, "narrow", 10 ** 12 - 39, 10 ** 12)), (("all", 10 ** 12 - 39, 10 ** 12,
                inner),))
        self.assertIsNone(needs(fact(whole, "narrow", 10 ** 12 - 1, 10 ** 12 + 1)))
        self.assertIsNone(needs(fact(("all", 99990, 99999, ("prime", "n")), "narrow", 99990, 100000)))

    def test_rows_of_each_kind(self):
        for word in ("many", "total", "least"):
            for n in (1, 2, 3, 4):
                for r in (-5, -2, -1, 0, 1, 2, 3, 4, 5, n, 10 ** 12, 10 ** 13):
                    rows = [9, 9, 9, 9]
                    rows[n - 1] = r
                    table = ("table", word, tuple(rows))
                    for what in (("prime", n), ("not", ("prime", n)), ("divides", max(1, min(r, 10 ** 12)), n),
                            ("divides", 1, n), ("divides", 9, n), ("prime", n + 1), ("not", ("divides", 1, n))):
                        for at in (0, n, n + 1, 5, -1):
                            entry = fact(what, "row", table, at)
                            due = (table,) if at == n and what in row_due(word, r, n) else None
                            if 1 <= at <= 4 and at != n:
                                due = (table,) if what in row_due(word, 9, at) else None
                            self.assertEqual(needs(entry), due, entry)

    def test_tables_that_are_not_so(self):
        wrong = ("table", "many", (2, 2))
        self.assertEqual(needs(fact(("prime", 1), "row", wrong, 1)), (wrong,))
        wrong = ("table", "least", (1, 3))
        self.assertEqual(needs(fact(("divides", 3, 2), "row", wrong, 2)), (wrong,))
        self.assertEqual(needs(fact(("not", ("prime", 2)), "row", wrong, 2)), (wrong,))

    def test_kinds(self):
        for entry, due in NEEDS:
            self.assertIs(type(needs(entry)), tuple)
            self.assert_kept(needs, entry)
        self.assertEqual(needs(entry=judged(("prime", 2))), ())
        self.assertEqual(needs(fact(LEAST_TABLE, "each")), None)
        self.assertEqual(needs(("claim", SQUARED, ())), ())
        self.assertIsNone(needs(("claim", PASSED_ON, COMPOSITE)))


if __name__ == "__main__":
    unittest.main()
