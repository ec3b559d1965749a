"""Claims, their workings, what they are put with worths (18)."""

import random
import unittest

from surenumbers.claims import is_claim, put_claim, working_holds
from surenumbers.polys import is_open, poly_of
from surenumbers.things import is_label
from tests.entries import EVENLY, NAMED, PASSED_ON, PLAIN, SQUARED, THRICE, TURNED, WORKINGS
from tests.helpers import ANYTHING, Kept, spoilt
from tests.test_polys import product, sums, worth_due

LETTERS = ("a", "b", "c", "d", "e")
HEAVY = ("power", "a", 6)


def is_claim_due(thing):
    """What a claim is, word by word."""
    if type(thing) is not tuple or len(thing) != 3 or type(thing[0]) is not tuple or type(thing[1]) is not tuple:
        return False
    letters, givens, goal = thing
    if not all(is_label(letter) for letter in letters) or list(letters) != sorted(set(letters)) or len(letters) > 5:
        return False
    pairs = givens + (goal,)
    return len(givens) <= 3 and all(type(pair) is tuple and len(pair) == 2 and all(is_open(term, letters)
            for term in pair) for pair in pairs)


def is_working_due(claim, thing):
    """What a working is: multiplied out in one open term without bounds, by poly_of of its parts."""
    letters, givens, goal = claim
    if type(thing) is not tuple or len(thing) != len(givens) or not all(is_open(term, letters) for term in thing):
        return False
    whole = ("less", goal[0], goal[1])
    for factor, (t, u) in zip(thing, givens):
        whole = ("less", whole, ("times", factor, ("less", t, u)))
    return poly_of(whole, letters) == ()


CLAIMS = [claim for claim, working in WORKINGS] + [
    (LETTERS, (), ("a", "e")),
    (("a", "aa", "b", "ba", "c"), (), (0, 0)),
    ((), ((1, 1), (2, 2), (3, 3)), (4, 5)),
    (("a",), ((HEAVY, HEAVY),), (sums(30), HEAVY)),
    (("abcdefgh",), (), ("abcdefgh", 0)),
]

NO_CLAIMS = [
    (), ((), ()), ((), (), (0, 0), ()), [(), (), (0, 0)], ([], (), (0, 0)), ((), [], (0, 0)), ((), (), [0, 0]),
    (LETTERS + ("f",), (), (0, 0)), (("b", "a"), (), (0, 0)), (("a", "a"), (), (0, 0)), (("A",), (), (0, 0)),
    ((1,), (), (0, 0)), (("abcdefghi",), (), (0, 0)), (("",), (), (0, 0)), ((True,), (), (0, 0)), ("a", (), (0, 0)),
    ((), ((1, 1), (2, 2), (3, 3), (4, 4)), (0, 0)), ((), (1, 1), (0, 0)), ((), ((1,),), (0, 0)),
    ((), ((1, 1, 1),), (0, 0)), ((), (), (0,)), ((), (), (0, 0, 0)), ((), (), 0), ((), (), ()), ((), (), None),
    (("a",), (), ("a", "b")), (("a",), (("b", 1),), ("a", 1)), ((), (), ("a", 0)), (("a",), (), ("a", True)),
    (("a",), (), ("a", None)), (("a",), (), (sums(31), 0)), (("a",), (), (("power", "a", 7), 0)),
    (("a",), ((1, ("power", "a", 7)),), (0, 0)), (("a",), (), (("power", 2, "a"), 0)), (("a",), (), (["a"], 0)),
    (("a", "b"), (), (product(7), 0)), ("same", 1, 1), ("not", ("prime", 7)),
]


class TestClaims(Kept):
    def test_claims(self):
        for claim in CLAIMS:
            self.assert_true(is_claim(claim))
            self.assertTrue(is_claim_due(claim))

    def test_no_claims(self):
        for thing in NO_CLAIMS + list(ANYTHING):
            self.assert_false(is_claim(thing))

    def test_spoilt(self):
        for claim in CLAIMS[:7]:
            for thing in spoilt(claim):
                self.assertIs(is_claim(thing), is_claim_due(thing), thing)

    def test_kept(self):
        for thing in CLAIMS + NO_CLAIMS:
            self.assert_kept(is_claim, thing)
        self.assert_true(is_claim(thing=PLAIN))


class TestWorkings(Kept):
    def test_right(self):
        for claim, working in WORKINGS:
            self.assert_true(working_holds(claim, working))

    def test_others_that_are_right(self):
        self.assert_true(working_holds(TURNED, (("power", "a", 6),)))
        self.assert_true(working_holds(EVENLY, (("sum", "b", "a"),)))
        self.assert_true(working_holds(PASSED_ON, (("sum", 0, 1), ("power", "c", 0))))
        self.assert_true(working_holds((("a", "b"), (("a", "b"), ("a", "b")), ("a", "b")), (5, -4)))

    def test_wrong(self):
        for claim, wrong in (
            (TURNED, ()), (TURNED, (0, 0)), (TURNED, 0), (TURNED, [0]), (TURNED, ("b",)), (TURNED, (True,)),
            (TURNED, (False,)), (TURNED, (None,)), (TURNED, (("power", "a", 7),)), (TURNED, (sums(31),)),
            (SQUARED, (0,)), (SQUARED, []), (SQUARED, None), (PLAIN, (0,)), (PLAIN, 0), (PASSED_ON, (1, 2)),
            (PASSED_ON, (1, -1)), (PASSED_ON, (1,)), (PASSED_ON, (1, 1, 0)), (PASSED_ON, (1, True)),
            (EVENLY, (("less", "a", "b"),)), (EVENLY, (("sum", "a", "a"),)), (EVENLY, (("sum", "a", "c"),)),
            (THRICE, (2, "z", ("times", "y", "z"))), (NAMED, ("sum",)), (((), (), (2, 3)), ()),
            ((("a",), (), ("a", 0)), ()), ((("a",), (), (("times", 2, "a"), "a")), ()),
        ):
            self.assert_false(working_holds(claim, wrong))

    def test_spoilt(self):
        for claim, working in WORKINGS:
            for thing in (*spoilt(working), *ANYTHING):
                self.assertIs(working_holds(claim, thing), is_working_due(claim, thing), (claim, thing))

    def test_spoilt_claims(self):
        for claim, working in WORKINGS:
            for other in spoilt(claim):
                if is_claim_due(other):
                    self.assertIs(working_holds(other, working), is_working_due(other, working), (other, working))

    def test_heavy(self):
        wide = ("power", ("sum", ("sum", "a", ("sum", "b", "c")), ("sum", "d", ("sum", "e", 1))), 6)
        claim = (LETTERS, ((wide, wide),), (0, 0))
        self.assert_true(working_holds(claim, (wide,)))
        claim = (LETTERS, ((wide, ("less", wide[1], 1)),), (wide, ("less", wide[1], 1)))
        self.assert_true(working_holds(claim, (1,)))
        self.assert_false(working_holds(claim, (wide,)))

    def test_holds_for_all_numbers(self):
        # Wherever the givens are the same, the goal is, too; else nothing is said of it.
        numbers = random.Random(5)
        for claim, working in WORKINGS:
            letters, givens, goal = claim
            for _ in range(300):
                worths = {letter: numbers.randrange(-3, 4) for letter in letters}
                if all(worth_due(t, worths) == worth_due(u, worths) for t, u in givens):
                    self.assertEqual(worth_due(goal[0], worths), worth_due(goal[1], worths))

    def test_kept(self):
        for claim, working in WORKINGS:
            self.assert_kept(working_holds, claim, working)
        self.assert_true(working_holds(thing=(), claim=PLAIN))


class TestPut(Kept):
    def test_put(self):
        self.assertEqual(put_claim(PLAIN, ()), ((), ("same", ("sum", 2, 2), 4)))
        self.assertEqual(put_claim(PASSED_ON, (7, -8, 10 ** 200)),
                ((("same", 7, -8), ("same", -8, 10 ** 200)), ("same", 7, 10 ** 200)))
        self.assertEqual(put_claim(EVENLY, (0, -1)), ((("same", 0, -1),), ("same", ("power", 0, 2), ("power", -1, 2))))
        self.assertEqual(put_claim((("a",), (), ("a", ("power", "a", 0))), (4,)), ((), ("same", 4, ("power", 4, 0))))

    def test_letters_called_as_words(self):
        self.assertEqual(put_claim(NAMED, (2, 5)),
                ((("same", 5, 2),), ("same", ("times", 5, 5), ("power", 2, 2))))
        claim = (("less", "n", "same", "sum", "times"), (("same", "n"),), (("times", "times", ("less", "less", 1)),
                ("sum", "sum", ("sum", "same", "n"))))
        self.assertEqual(put_claim(claim, (1, 2, 3, 4, 5)), ((("same", 3, 2),), ("same", ("times", 5, ("less", 1, 1)),
                ("sum", 4, ("sum", 3, 2)))))

    def test_kinds(self):
        for claim, working in WORKINGS:
            told = put_claim(claim, tuple(range(3, 3 + len(claim[0]))))
            self.assertIs(type(told), tuple)
            self.assertIs(type(told[0]), tuple)
            self.assertEqual((len(told), len(told[0])), (2, len(claim[1])))
            for thing, (t, u) in zip((*told[0], told[1]), (*claim[1], claim[2])):
                worths = dict(zip(claim[0], range(3, 8)))
                self.assertEqual((thing[0], worth_due(thing[1], {}), worth_due(thing[2], {})),
                        ("same", worth_due(t, worths), worth_due(u, worths)))

    def test_kept(self):
        self.assert_kept(put_claim, PASSED_ON, (1, 2, 3))
        self.assertEqual(put_claim(worths=(1,), claim=TURNED), put_claim(TURNED, (1,)))


if __name__ == "__main__":
    unittest.main()
