"""What is made for statements of all sorts (24), and the promise over all of it (3)."""

import unittest

from surenumbers.errors import NumberError, TooGreat
from surenumbers.judging import no_holds, yes_holds
from surenumbers.kinds import LIMIT
from surenumbers.making import made
from surenumbers.statements import is_statement, looked_at
from surenumbers.things import is_thing
from tests.examples import EXAMPLES, NOT_SO, SO, ranges
from tests.helpers import Kept

OTHER = {"yes": "no", "no": "yes"}

# Of each sort that has a number looked at: a statement with that number.
LOOKED = {
    "prime": lambda number: ("prime", number),
    "factors": lambda number: ("factors", number, ((2, 1),)),
    "square": lambda number: ("square", 1, number),
    "squares": lambda number: ("squares", 3, number),
    "root": lambda number: ("root", 1, number),
    "order": lambda number: ("order", 2, 10 ** 12, number),
    "pell": lambda number: ("pell", number, 10 ** 30, 7),
}

NEVER_LOOKED = ("same", "below", "divides", "shared", "joined", "clash", "row", "count", "table")


class Making(Kept):
    def refused(self, statement, **named):
        with self.assertRaises(TooGreat) as caught:
            made(statement, **named)
        self.assertIsInstance(caught.exception, NumberError)
        return caught.exception.number

    def assert_told(self, statement, is_so):
        """What is told is on the right side, and is let by on that side alone."""
        told = made(statement, limit=99999)
        self.assertIsInstance(told, tuple)
        side, thing = told
        self.assertEqual(side, "yes" if is_so else "no", statement)
        self.assertIs(is_thing(thing), True)
        self.assertIs(yes_holds(statement, thing, most=10 ** 6), is_so)
        self.assertIs(no_holds(statement, thing, most=10 ** 6), not is_so)
        return told


class TestMade(Making):
    def test_each_sort(self):
        for statement, is_so in EXAMPLES:
            self.assert_told(statement, is_so)

    def test_not(self):
        for statement, is_so in EXAMPLES:
            side, thing = self.assert_told(statement, is_so)
            self.assertEqual(self.assert_told(("not", statement), not is_so), (OTHER[side], thing))

    def test_ranges(self):
        for statement, is_so in ranges():
            side, thing = self.assert_told(statement, is_so)
            self.assertEqual(self.assert_told(("not", statement), not is_so), (OTHER[side], thing))

    def test_ranges_of_each_example(self):
        # A range in which `n` never stands is told as its inner statement, however often.
        for statement, is_so in EXAMPLES:
            for inner, due in ((statement, is_so), (("not", statement), not is_so)):
                for low, high in ((0, 0), (5, 6)):
                    self.assert_told(("all", low, high, inner), due)
                    self.assert_told(("some", low, high, inner), due)
                    self.assert_told(("least", low, inner, high), due and low == high)

    def test_great_ranges(self):
        self.assert_told(("all", 99960, 99999, ("prime", "n")), False)
        self.assert_told(("some", 99960, 99999, ("prime", "n")), True)
        self.assert_told(("least", 99972, ("prime", "n"), 99989), True)
        self.assert_told(("least", 99971, ("prime", "n"), 99989), False)
        self.assert_told(("all", 99960, 99999, ("squares", 4, "n")), True)
        self.assert_told(("all", 10 ** 12 - 39, 10 ** 12, ("divides", 1, "n")), True)
        self.assert_told(("some", 99960, 99999, ("not", ("squares", 3, "n"))), True)
        self.assert_told(("some", 99930, 99969, ("root", 2, 99971)), True)
        self.assert_told(("all", 1, 40, ("not", ("joined", ((0, 2), (0, 3)), 0, "n"))), False)

    def test_a_wide_sweep(self):
        for n in range(0, 60):
            self.assert_told(("prime", n), n > 1 and all(n % d for d in range(2, n)))
            for high in (n, n + 1, n + 39):
                told = [number > 1 and all(number % d for d in range(2, number)) for number in range(n, high + 1)]
                self.assert_told(("all", n, high, ("prime", "n")), all(told))
                self.assert_told(("some", n, high, ("prime", "n")), any(told))
                self.assert_told(("least", n, ("prime", "n"), high), told[-1] and not any(told[:-1]))
                self.assert_told(("all", n, high, ("not", ("prime", "n"))), not any(told))
                self.assert_told(("least", n, ("not", ("prime", "n")), high), not told[-1] and all(told[:-1]))

    def test_kept(self):
        for statement, is_so in EXAMPLES + list(ranges())[::17]:
            self.assert_kept(made, statement)

    def test_by_names(self):
        self.assertEqual(made(statement=("prime", 2)), ("yes", ("chain", ())))
        self.assertEqual(made(limit=2, statement=("prime", 2)), ("yes", ("chain", ())))
        with self.assertRaises(TypeError):
            made(("prime", 2), 5)


class TestLimit(Making):
    def test_sorts(self):
        self.assertEqual(set(LOOKED) | set(NEVER_LOOKED), set(SO))

    def test_left_out(self):
        self.assertEqual(LIMIT, 10000)
        for sort in LOOKED:
            # 10000 itself is even, and a square: where there is no such statement the next below is the edge.
            for number in (9999, 10000, 10001, 10003, 99999):
                statement = LOOKED[sort](number)
                if not is_statement(statement):
                    continue
                if number > 10000:
                    self.assertEqual(self.refused(statement), number)
                    self.assertEqual(self.refused(("not", statement)), number)
                    self.assertEqual(self.refused(("some", 0, 3, statement)), number)
                else:
                    self.assertIn(made(statement)[0], ("yes", "no"))
                    self.assertIn(made(("all", 0, 3, ("not", statement)))[0], ("yes", "no"))
        self.assertEqual(made(("prime", 10000))[0], "no")
        self.assertEqual(self.refused(("prime", 10001)), 10001)
        self.assertEqual(made(("squares", 2, 10000))[0], "yes")
        self.assertEqual(made(("order", 1, 2, 10000))[0], "no")
        self.assertEqual(made(("factors", 10000, ((2, 4), (5, 4))))[0], "yes")

    def test_at_the_number_and_one_less(self):
        for sort in LOOKED:
            for number in (3, 5, 7, 15, 99, 9999):
                statement = LOOKED[sort](number)
                self.assertTrue(is_statement(statement))
                told = made(statement, limit=number)
                self.assertEqual(made(statement, limit=99999), told)
                self.assertEqual(self.refused(statement, limit=number - 1), number)
                self.assertEqual(self.refused(statement, limit=0), number)
                self.assertEqual(self.refused(("not", statement), limit=number - 1), number)
                self.assertEqual(made(("not", statement), limit=number), (OTHER[told[0]], told[1]))

    def test_limit_0(self):
        for sort in NEVER_LOOKED:
            for statement in SO[sort] + NOT_SO[sort]:
                self.assertEqual(looked_at(statement), ())
                self.assertEqual(made(statement, limit=0), made(statement))
                self.assertEqual(made(("not", statement), limit=0), made(("not", statement)))
                self.assertEqual(made(("all", 7, 9, statement), limit=0), made(("all", 7, 9, statement)))
        self.assertEqual(made(("prime", 0), limit=0), ("no", ("few",)))
        self.assertEqual(self.refused(("prime", 1), limit=0), 1)
        self.assertEqual(made(("squares", 2, 0), limit=0), ("yes", ("roots", (0, 0))))
        # What isn't looked at may be as great as it is.
        self.assertEqual(made(("order", 10 ** 12, 10 ** 12, 1), limit=1)[0], "no")
        self.assertEqual(made(("pell", 2, 10 ** 50, 1), limit=2)[0], "no")
        self.assertEqual(made(("factors", 2, ((99991, 1),)), limit=2)[0], "no")
        self.assertEqual(made(("divides", 10 ** 12, 10 ** 12), limit=0)[0], "yes")
        self.assertEqual(made(("count", 2000, 303), limit=0)[0], "yes")

    def test_ranges(self):
        self.assertEqual(self.refused(("all", 5, 20, ("prime", "n")), limit=9), 10)
        self.assertEqual(self.refused(("all", 5, 20, ("prime", "n")), limit=4), 5)
        self.assertEqual(self.refused(("all", 5, 20, ("prime", "n")), limit=0), 5)
        self.assertEqual(self.refused(("all", 5, 20, ("prime", "n")), limit=19), 20)
        self.assertEqual(made(("all", 5, 20, ("prime", "n")), limit=20)[0], "no")
        self.assertEqual(self.refused(("some", 5, 20, ("prime", "n")), limit=19), 20)
        self.assertEqual(self.refused(("least", 5, ("prime", "n"), 20), limit=19), 20)
        self.assertEqual(self.refused(("least", 20, ("prime", "n"), 20), limit=19), 20)
        self.assertEqual(self.refused(("not", ("some", 5, 20, ("not", ("prime", "n")))), limit=12), 13)
        self.assertEqual(self.refused(("all", 9990, 10010, ("prime", "n"))), 10001)
        self.assertEqual(self.refused(("all", 0, 3, ("prime", 10001))), 10001)
        self.assertEqual(self.refused(("all", 1, 3, ("order", "n", 7, 50)), limit=49), 50)
        self.assertEqual(made(("all", 10 ** 6, 10 ** 6 + 3, ("order", "n", 7, 50)), limit=50)[0], "no")

    def test_the_first_in_order(self):
        # A number that decides the range ahead of it doesn't spare what is too great.
        self.assertEqual(self.refused(("some", 2, 30, ("prime", "n")), limit=25), 26)
        self.assertEqual(self.refused(("all", 0, 39, ("prime", "n")), limit=38), 39)
        self.assertEqual(self.refused(("least", 2, ("prime", "n"), 9), limit=8), 9)

    def test_what_is_too_great_is_never_guessed(self):
        for statement, is_so in EXAMPLES + list(ranges())[::5]:
            numbers = looked_at(statement)
            for limit in sorted({0, 1, 5, 10} | set(numbers) | {number - 1 for number in numbers if number > 0}):
                above = [number for number in numbers if number > limit]
                if above:
                    self.assertEqual(self.refused(statement, limit=limit), above[0])
                    self.assertEqual(self.refused(("not", statement), limit=limit), above[0])
                else:
                    self.assertEqual(made(statement, limit=limit), made(statement, limit=99999))


if __name__ == "__main__":
    unittest.main()
