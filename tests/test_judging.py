"""What is a yes, a no, of statements of all sorts (7 to 17)."""

import unittest

from surenumbers.errors import NumberError, TooLong
from surenumbers.judging import no_holds, yes_holds
from surenumbers.kinds import MOST
from surenumbers.making import made
from surenumbers.pells import fraction_of, pell_rows
from surenumbers.statements import put_in
from surenumbers.things import size_of
from tests.examples import EXAMPLES, INNERS, NOT_SO, SO, ranges
from tests.helpers import ANYTHING, ODD_THINGS, Judged, spoilt

NO_STATEMENTS = ANYTHING + (
    ("prime", True), ("prime", -1), ("prime", "n"), ["prime", 7], ("not", ("not", ("prime", 4))), ("not", 5),
    ("all", 0, 40, ("prime", "n")), ("all", 0, 1, ("all", 0, 1, ("prime", "n"))), ("all", True, 2, ("prime", "n")),
    ("all", 0, 1, ("prime", "m")), ("least", 0, ("prime", "n"), 40), ("some", 1, 0, ("prime", "n")), ("walk",),
    ("not", ("all", 0, 40, ("prime", "n"))), ("all", 99999, 100000, ("prime", "n")), ("all", 0, 1, ["prime", 7]),
)


class Judging(Judged):
    shows = staticmethod(yes_holds)
    denies = staticmethod(no_holds)

    @staticmethod
    def made(statement):
        return made(statement, limit=10 ** 6)

    def assert_other_way_about(self, statement, thing):
        """What is a yes of the one is a no of its "not", and so on."""
        self.assertIs(yes_holds(("not", statement), thing), no_holds(statement, thing))
        self.assertIs(no_holds(("not", statement), thing), yes_holds(statement, thing))


class TestSorts(Judging):
    def test_all_sorts_are_there(self):
        self.assertEqual(len(SO), 16)
        self.assertEqual(set(SO), set(NOT_SO))
        self.assertEqual({inner[1][0] if inner[0] == "not" else inner[0] for inner, *rest in INNERS}, set(SO))

    def test_own_certificates(self):
        for statement, is_so in EXAMPLES:
            self.assert_made(statement, is_so)

    def test_not(self):
        for statement, is_so in EXAMPLES:
            thing = self.assert_made(("not", statement), not is_so)
            self.assertEqual(thing, self.assert_made(statement, is_so))
            self.assert_other_way_about(statement, thing)
            for other in ANYTHING:
                self.assert_neither(("not", statement), other)

    def test_certificates_of_other_statements(self):
        # Whatever is told of another one: it is let by on the right side alone.
        told = [made(statement)[1] for statement, is_so in EXAMPLES]
        for statement, is_so in EXAMPLES:
            for thing in told:
                self.assertLessEqual(self.is_yes(statement, thing), is_so)
                self.assertLessEqual(self.is_no(statement, thing), not is_so)
                self.assert_other_way_about(statement, thing)

    def test_spoilt_certificates(self):
        for statement, is_so in EXAMPLES:
            if statement[1] == 61:
                continue
            for thing in spoilt(made(statement)[1]):
                self.assertLessEqual(self.is_yes(statement, thing), is_so)
                self.assertLessEqual(self.is_no(statement, thing), not is_so)
                self.assert_other_way_about(statement, thing)

    def test_several_certificates(self):
        self.assert_yes(("not", ("prime", 91)), ("divisor", 7))
        self.assert_yes(("not", ("prime", 91)), ("divisor", 13))
        self.assert_yes(("not", ("prime", 91)), ("witness", 2))
        self.assert_no(("not", ("prime", 2)), ("chain", ()))
        self.assert_neither(("not", ("prime", 91)), ("not", ("divisor", 7)))
        self.assert_yes(("table", "many", (1, 2, 2)), ("sample", (1,), 2))
        self.assert_no(("not", ("table", "many", (1, 2, 2))), ("sample", (1,), 2))


class TestRanges(Judging):
    def test_made(self):
        for statement, is_so in ranges():
            thing = self.assert_made(statement, is_so)
            self.assertEqual(self.assert_made(("not", statement), not is_so), thing)

    def parts_of(self, low, high, inner):
        """Of each number what is told of the inner thing there, on which side."""
        return [made(put_in(inner, number)) for number in range(low, high + 1)]

    def test_each(self):
        for inner, low, high, side in ((("prime", "n"), 5, 5, "yes"), (("not", ("prime", "n")), 8, 10, "yes"),
                (("prime", "n"), 8, 10, "no"), (("divides", 1, "n"), 0, 39, "yes"), (("below", "n", 3), 3, 42, "no")):
            told = self.parts_of(low, high, inner)
            self.assertEqual({part[0] for part in told}, {side})
            things = tuple(part[1] for part in told)
            statement = ("all" if side == "yes" else "some", low, high, inner)
            holds = self.assert_yes if side == "yes" else self.assert_no
            holds(statement, ("each", things))
            for spoilt_things in (things[:-1], things[1:], things + things[-1:], things + (0,), list(things), None, 0,
                    things[:-1] + (None,), things[:-1] + (("chain", ()),), ("each",), (things,)):
                self.assert_neither(statement, ("each", spoilt_things))
            for thing in (things, ["each", things], ("each",), ("each", things, 0), ("eachs", things),
                    ("least", things, things[-1]), ("all", things)):
                self.assert_neither(statement, thing)
            self.assert_other_way_about(statement, ("each", things))
            # All of them are on the other side for the other word.
            other = ("some" if side == "yes" else "all", low, high, inner)
            self.assert_neither(other, ("each", things))
            for number in range(low, high + 1):
                holds(other, ("at", number, things[number - low]))

    def test_things_out_of_order(self):
        inner = ("not", ("prime", "n"))
        things = (("divisor", 2), ("divisor", 3), ("divisor", 5))
        self.assert_yes(("all", 8, 10, inner), ("each", things))
        self.assert_neither(("all", 8, 10, inner), ("each", things[::-1]))
        self.assert_neither(("all", 8, 10, inner), ("each", (things[1], things[0], things[2])))
        self.assert_neither(("all", 7, 9, inner), ("each", things))
        self.assert_neither(("all", 8, 9, inner), ("each", things))
        self.assert_neither(("all", 8, 11, inner), ("each", things))
        self.assert_yes(("not", ("some", 8, 10, ("prime", "n"))), ("each", things))

    def test_one_spoilt(self):
        statement = ("all", 8, 10, ("not", ("prime", "n")))
        for thing in spoilt(("each", (("divisor", 2), ("divisor", 3), ("divisor", 5)))):
            self.assert_false(no_holds(statement, thing))
        for at in range(40):
            things = [("times", n) for n in range(2, 42)]
            statement = ("all", 2, 41, ("divides", 1, "n"))
            self.assert_yes(statement, ("each", tuple(things)))
            for wrong in (("times", at + 3), ("rest", at + 2, 0), None, ["times", at + 2], ("times", True)):
                things[at] = wrong
                self.assert_neither(statement, ("each", tuple(things)))

    def test_at(self):
        inner = ("divides", "n", 12)
        statement = ("all", 3, 7, inner)
        for j in range(-2, 11):
            told = self.is_no(statement, ("at", j, ("rest", 12 // j if j > 0 else 0, 12 % j if j > 0 else 1)))
            self.assertIs(told, j in (5, 7))
        some = ("some", 3, 7, inner)
        for j in range(-2, 14):
            self.assertIs(self.is_yes(some, ("at", j, ("times", 12 // j if j else 0))), j in (3, 4, 6))
        both = ("some", 3, 6, inner)
        for j in (3, 6):
            self.assert_yes(both, ("at", j, ("times", 12 // j)))
        for j in (2, 12, 1):
            self.assert_neither(both, ("at", j, ("times", 12 // j)))
        ends = ("all", 7, 11, ("not", ("prime", "n")))
        self.assert_no(ends, ("at", 7, made(("prime", 7))[1]))
        self.assert_no(ends, ("at", 11, made(("prime", 11))[1]))
        self.assert_neither(ends, ("at", 5, made(("prime", 5))[1]))
        self.assert_neither(ends, ("at", 13, made(("prime", 13))[1]))
        self.assert_neither(ends, ("at", 7, made(("prime", 11))[1]))
        for thing in (("at", 3), ("at", 3, ("times", 4), 0), ["at", 3, ("times", 4)], ("ats", 3, ("times", 4)),
                ("at", ("times", 4), 3), ("at", 3, ("times", 3)), ("at", 3, ["times", 4]), ("times", 4),
                ("sooner", 3, ("times", 4)), ("fails", ("times", 4))):
            self.assert_neither(some, thing)
        one = ("some", 0, 1, ("divides", 2, "n"))
        self.assert_yes(one, ("at", 0, ("times", 0)))
        self.assert_neither(one, ("at", False, ("times", 0)))
        self.assert_neither(("some", 1, 2, ("divides", "n", 2)), ("at", True, ("times", 2)))
        for odd in ODD_THINGS:
            self.assert_neither(some, ("at", odd, ("times", 4)))
            self.assert_neither(some, ("at", 3, odd))

    def test_least(self):
        inner = ("prime", "n")
        two = ("chain", ())
        self.assert_yes(("least", 0, inner, 2), ("least", (("few",), ("few",)), two))
        self.assert_yes(("least", 2, inner, 2), ("least", (), two))
        self.assert_yes(("least", 1, inner, 2), ("least", (("few",),), two))
        for thing in (("least", (("few",),), two), ("least", (("few",),) * 3, two), ("least", (), two),
                ("least", (("few",), ("few",)), ("few",)), ("least", (("few",), two), two), ("least", two),
                ("least", (("few",), ("few",), two)), ("least", (("few",), ("few",)), two, 0),
                ["least", (("few",), ("few",)), two], ("least", [("few",), ("few",)], two), ("least", None, two),
                ("leasts", (("few",), ("few",)), two), ("each", (("few",), ("few",), two)), two, ("fails", two),
                ("least", (("few",), ("divisor", 2)), two), ("least", two, (("few",), ("few",))), ("at", 2, two)):
            self.assert_neither(("least", 0, inner, 2), thing)
        self.assert_neither(("least", 2, inner, 2), ("least", None, two))
        self.assert_neither(("least", 2, inner, 2), ("least", [], two))
        self.assert_neither(("least", 2, inner, 2), ("least", (("few",),), two))
        self.assert_other_way_about(("least", 0, inner, 2), ("least", (("few",), ("few",)), two))
        forty = ("least", tuple(("rest", 0, n) for n in range(1, 40)), ("times", 1))
        self.assert_yes(("least", 1, ("divides", 40, "n"), 40), forty)
        self.assert_neither(("least", 1, ("divides", 40, "n"), 40), ("least", forty[1][1:] + forty[1][:1], forty[2]))

    def test_fails(self):
        self.assert_no(("least", 0, ("prime", "n"), 4), ("fails", ("divisor", 2)))
        self.assert_no(("least", 4, ("prime", "n"), 4), ("fails", ("divisor", 2)))
        self.assert_no(("least", 0, ("not", ("prime", "n")), 2), ("fails", ("chain", ())))
        for thing in (("fails",), ("fails", ("divisor", 2), 0), ["fails", ("divisor", 2)], ("fail", ("divisor", 2)),
                ("fails", ("few",)), ("fails", ("divisor", 3)), ("divisor", 2), ("fails", ("chain", ())),
                ("fails", ["divisor", 2]), ("at", 4, ("divisor", 2)), ("sooner", 4, ("divisor", 2))):
            self.assert_neither(("least", 0, ("prime", "n"), 4), thing)
        self.assert_neither(("least", 0, ("prime", "n"), 2), ("fails", ("chain", ())))
        self.assert_neither(("least", 0, ("prime", "n"), 2), ("fails", ("few",)))

    def test_sooner(self):
        inner = ("divides", "n", 12)
        statement = ("least", 2, inner, 6)
        self.assertEqual([j for j in range(1, 14) if self.is_no(statement, ("sooner", j, ("times", 12 // j)))],
                [2, 3, 4])
        # At k itself, and below low, nothing is sooner.
        self.assert_neither(statement, ("sooner", 6, ("times", 2)))
        self.assert_neither(statement, ("sooner", 1, ("times", 12)))
        last = ("least", 2, inner, 5)
        self.assert_no(last, ("sooner", 4, ("times", 3)))
        self.assert_no(last, ("sooner", 2, ("times", 6)))
        self.assert_neither(last, ("sooner", 5, ("times", 3)))
        self.assert_neither(last, ("sooner", 5, ("rest", 2, 2)))
        self.assert_no(last, ("fails", ("rest", 2, 2)))
        self.assert_neither(("least", 2, inner, 2), ("sooner", 2, ("times", 6)))
        for thing in (("sooner", 3), ("sooner", 3, ("times", 4), 0), ["sooner", 3, ("times", 4)],
                ("soon", 3, ("times", 4)), ("at", 3, ("times", 4)), ("sooner", 3, ("times", 3)),
                ("sooner", 3, ["times", 4]), ("sooner", ("times", 4), 3), ("sooner", 3, ("rest", 3, 3))):
            self.assert_neither(statement, thing)
        self.assert_no(("least", 1, inner, 3), ("sooner", 1, ("times", 12)))
        self.assert_neither(("least", 1, inner, 3), ("sooner", True, ("times", 12)))
        for odd in ODD_THINGS:
            self.assert_neither(statement, ("sooner", odd, ("times", 4)))
            self.assert_neither(statement, ("sooner", 3, odd))

    def test_whatever_is_let_by_is_so(self):
        told = [("at", 3, ("times", 4)), ("each", ()), ("least", (), ("walk",)), ("fails", ("walk",))]
        several = list(ranges())[::7]
        told += [made(statement)[1] for statement, is_so in several]
        for statement, is_so in several:
            for thing in told:
                self.assertLessEqual(yes_holds(statement, thing), is_so)
                self.assertLessEqual(no_holds(statement, thing), not is_so)

    def test_spoilt_ranges(self):
        for statement, is_so in ranges():
            if (statement[2] if statement[0] != "least" else statement[3]) - statement[1] > 2:
                continue
            thing = made(statement)[1]
            if size_of(thing) > 40:
                continue
            for other in spoilt(thing):
                self.assertLessEqual(yes_holds(statement, other), is_so)
                self.assertLessEqual(no_holds(statement, other), not is_so)

    def test_of_what_is_no_statement(self):
        things = (("walk",), ("few",), ("chain", ()), ("each", ()), ("at", 0, ("few",)), ("least", (), ("few",)),
                ("fails", ("few",)), ("whole",), ("each", (("few",), ("few",))), ("times", 1), None, [], {})
        for wrong in NO_STATEMENTS:
            for thing in things:
                self.assert_neither(wrong, thing)
                self.assert_neither(("not", wrong), thing)
                if wrong != ("prime", "n"):
                    self.assert_neither(("all", 0, 1, wrong), thing)

    def test_other_forms(self):
        for statement, is_so in list(ranges())[::11]:
            for thing in ANYTHING:
                self.assert_neither(statement, thing)

    def test_kept(self):
        for statement, is_so in EXAMPLES + list(ranges())[::31]:
            for thing in ANYTHING + (made(statement)[1], list(made(statement)[1])):
                self.assert_kept(yes_holds, statement, thing)
                self.assert_kept(no_holds, statement, thing)


class TestMost(Judging):
    def refused(self, function, *handed, **named):
        with self.assertRaises(TooLong) as caught:
            function(*handed, **named)
        self.assertIsInstance(caught.exception, NumberError)
        return caught.exception.size

    def test_at_the_size(self):
        for statement, is_so in EXAMPLES + list(ranges())[::13]:
            thing = made(statement)[1]
            size = size_of(thing)
            self.assertIs(yes_holds(statement, thing, most=size), is_so)
            self.assertIs(no_holds(statement, thing, most=size), not is_so)
            self.assertEqual(self.refused(yes_holds, statement, thing, most=size - 1), size)
            self.assertEqual(self.refused(no_holds, statement, thing, most=size - 1), size)
            self.assertEqual(self.refused(no_holds, statement, thing, most=0), size)

    def test_ahead_of_all_else(self):
        for wrong in NO_STATEMENTS:
            for function in (yes_holds, no_holds):
                self.assertEqual(self.refused(function, wrong, ("walk", 1, 2), most=2), 3)
                self.assertEqual(self.refused(function, wrong, (0,) * (MOST + 1)), MOST + 1)
                self.assert_false(function(wrong, ("walk", 1, 2), most=3))

    def test_left_out(self):
        for function in (yes_holds, no_holds):
            self.assert_false(function(("prime", 7), (0,) * MOST))
            self.assertEqual(self.refused(function, ("prime", 7), (0,) * (MOST + 1)), MOST + 1)
            self.assertEqual(self.refused(function, ("prime", 7), ((0,) * MOST, (1, ()))), MOST + 1)
            self.assert_false(function(("prime", 7), (0,) * (MOST + 1), most=MOST + 1))

    def test_nothing_is_of_size_0_but_empty_tuples(self):
        for function in (yes_holds, no_holds):
            for thing in ((), ((),), ((), ((), ()))):
                self.assert_false(function(("prime", 7), thing, most=0))
            for thing in (0, "walk", "", None, True, [], {}, [1, 2, 3], {"a": (1, 2)}):
                self.assertEqual(self.refused(function, ("prime", 7), thing, most=0), 1)
                self.assert_false(function(("prime", 7), thing, most=1))

    def test_lists_and_dicts_are_of_size_1(self):
        for function in (yes_holds, no_holds):
            self.assert_false(function(("prime", 7), [0] * 9000))
            self.assert_false(function(("prime", 7), {number: number for number in range(5000)}))
            self.assertEqual(self.refused(function, ("prime", 7), ([0] * 9, {1: (1, 2)}, 5), most=2), 3)

    def test_what_makers_tell_may_be_greater(self):
        # The longest rows of all have this d.
        d = 92821
        statement = ("pell", d, *fraction_of(pell_rows(d)))
        side, thing = made(statement, limit=99999)
        size = size_of(thing)
        self.assertGreater(size, MOST)
        self.assertEqual(side, "yes")
        self.assertEqual(self.refused(yes_holds, statement, thing), size)
        self.assert_true(yes_holds(statement, thing, most=size))
        self.assert_false(no_holds(statement, thing, most=size))
        self.assertEqual(self.refused(yes_holds, statement, thing, most=size - 1), size)

    def test_by_names(self):
        self.assert_true(yes_holds(thing=("chain", ()), statement=("prime", 2)))
        self.assert_true(yes_holds(("prime", 2), most=1, thing=("chain", ())))
        self.assert_true(no_holds(most=1, thing=("few",), statement=("prime", 1)))
        with self.assertRaises(TypeError):
            yes_holds(("prime", 2), ("chain", ()), 5)
        with self.assertRaises(TypeError):
            no_holds(("prime", 2), ("chain", ()), 5)


if __name__ == "__main__":
    unittest.main()
