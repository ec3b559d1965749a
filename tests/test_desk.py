"""A desk and its rows (27)."""

import random
import unittest

from surenumbers.desk import Desk
from surenumbers.errors import Full, NoBack, NoCall, NoEntry, NoRow, NotThere, TooGreat, TooLong
from surenumbers.grounds import needs
from surenumbers.houses import House
from surenumbers.housetexts import read_house
from surenumbers.judging import yes_holds
from surenumbers.kinds import MANY
from surenumbers.pells import fraction_of, pell_rows
from surenumbers.things import read_thing, show_thing
from surenumbers.whys import lot_holds, why_holds
from tests.entries import COMPOSITE, ENTRIES, NEEDS, PASSED_ON, RANGE, TURNED, judged
from tests.examples import EXAMPLES
from tests.helpers import ANYTHING
from tests.test_houses import ALL, EIGHT, PARTS, SEVEN, WORKED, Counted

BAD_LABELS = ("", "A", "a1", "abcdefghi", "a-b", "5", "-", "(a)", "a\n", "\na", "a.", "?")
BAD_THINGS = ("", " ", "(", ")", "()()", "( )", "(prime  7)", "(prime 7) ", " (prime 7)", "(prime 07)", "(prime -0)",
        "(prime +7)", "(Prime 7)", "prime 7", "(prime 7))", "((prime 7)", "(prime\t7)", "(prime 7)\n",
        "(prime 7.0)", "_")
LABEL_WORDS = ("make", "holds", "why")
THING_WORDS = ("call", "put", "take", "needs")


def say(desk, *words):
    """A row of these words, things written out."""
    return desk.say(" ".join(word if type(word) is str else show_thing(word) for word in words))


def desk_of(**calls):
    desk = Desk()
    for label, what in calls.items():
        assert say(desk, "call", label, what) == "ok"
    return desk


class Rows(Counted):
    def assert_refused(self, kind, desk, row):
        """The row is refused, and nothing is changed."""
        before = (desk.say("names"), desk.say("text"), desk.say("facts"))
        error = self.refused(kind, desk.say, row)
        self.assertEqual((desk.say("names"), desk.say("text"), desk.say("facts")), before)
        return error

    def entries(self, desk):
        """The entries of a desk's house, by its text."""
        text = desk.say("text")
        return read_house("" if text == "-" else text.replace(" / ", "\n")).entries()


class TestCalls(Rows):
    def test_call_and_names(self):
        desk = Desk()
        self.assertEqual(desk.say("names"), "-")
        for label, what, names in (("b", ("prime", 7), "b"), ("abc", RANGE, "abc b"), ("z", TURNED, "abc b z"),
                ("aa", ("prime", 7), "aa abc b z"), ("b", ("prime", 8), "aa abc b z"),
                ("call", PASSED_ON, "aa abc b call z"), ("abcdefgh", ("not", RANGE), "aa abc abcdefgh b call z")):
            self.assertEqual(say(desk, "call", label, what), "ok")
            self.assertEqual(desk.say("names"), names)

    def test_each_statement_and_claim(self):
        desk = Desk()
        for entry in ENTRIES:
            self.assertEqual(say(desk, "call", "a", entry[1]), "ok")
        for statement, is_so in EXAMPLES:
            self.assertEqual(say(desk, "call", "a", statement), "ok")

    def test_in_another_ones_place(self):
        desk = desk_of(a=("prime", 7))
        self.assertEqual(desk.say("make a"), "yes")
        self.assertEqual(desk.say("holds a"), "yes")
        say(desk, "call", "a", ("prime", 11))
        self.assertEqual(desk.say("holds a"), "no")
        self.assertEqual(self.entries(desk), (SEVEN,))

    def test_of_what_is_neither(self):
        desk = desk_of(a=("prime", 7))
        for thing in (5, "prime", (), ("prime",), ("prime", -1), ("prime", "n"), SEVEN, ("not", ("not", ("prime", 7))),
                ("all", 0, 40, ("prime", "n")), (("b", "a"), (), (0, 0)), ((), (), (0,)), WORKED):
            self.assert_refused(NoRow, desk, "call a " + show_thing(thing))
            self.assert_refused(NoRow, desk, "call b " + show_thing(thing))
        self.assertEqual(say(desk, "holds", "a"), "no")


class TestMake(Rows):
    def test_each_statement(self):
        for statement, is_so in EXAMPLES:
            desk = desk_of(a=statement, b=("not", statement))
            self.assertEqual(desk.say("make a"), "yes" if is_so else "no")
            (entry,) = self.entries(desk)
            self.assertEqual(entry[:2], ("fact", statement if is_so else ("not", statement)))
            self.assertEqual((len(entry[2]), entry[2][0]), (2, "judged"))
            self.assert_true(yes_holds(entry[1], entry[2][1]))
            self.assertEqual((desk.say("holds a"), desk.say("holds b")), ("yes", "no") if is_so else ("no", "yes"))
            self.assertEqual(desk.say("facts"), "1 0")

    def test_of_a_not(self):
        for statement, is_so in EXAMPLES:
            desk = desk_of(a=("not", statement), b=statement)
            self.assertEqual(desk.say("make a"), "no" if is_so else "yes")
            (entry,) = self.entries(desk)
            self.assertEqual(entry[:2], ("fact", statement if is_so else ("not", statement)))
            self.assert_true(yes_holds(entry[1], entry[2][1]))
            self.assertEqual((desk.say("holds a"), desk.say("holds b")), ("no", "yes") if is_so else ("yes", "no"))

    def test_of_ranges(self):
        for statement, word, shown in ((RANGE, "yes", RANGE), (("all", 8, 11, COMPOSITE), "no", ("not", ("all", 8, 11,
                COMPOSITE))), (("not", RANGE), "no", RANGE), (("least", 8, ("prime", "n"), 11), "yes", ("least", 8,
                ("prime", "n"), 11)), (("not", ("some", 8, 10, ("prime", "n"))), "yes", ("not", ("some", 8, 10,
                ("prime", "n"))))):
            desk = desk_of(a=statement)
            self.assertEqual(desk.say("make a"), word)
            self.assertEqual(self.entries(desk)[0][1], shown)

    def test_made_again(self):
        desk = desk_of(a=("prime", 7))
        for _ in range(3):
            self.assertEqual(desk.say("make a"), "yes")
            self.assertEqual(self.entries(desk), (SEVEN,))

    def test_refused(self):
        desk = desk_of(a=TURNED, b=("prime", 10007), c=("not", ("all", 9999, 10002, ("prime", "n"))))
        self.assert_refused(NoRow, desk, "make a")
        self.assertEqual(self.assert_refused(TooGreat, desk, "make b").number, 10007)
        self.assertEqual(self.assert_refused(TooGreat, desk, "make c").number, 10001)
        self.assertEqual(self.assert_refused(NoCall, desk, "make x").label, "x")

    def test_refused_by_the_house(self):
        first, second = fraction_of(pell_rows(9949))
        long = ("all", 0, 39, ("pell", 9949, first, second))
        desk = desk_of(a=long, b=("prime", 10007), c=("prime", 2), d=("prime", 3))
        self.assertGreater(self.assert_refused(TooLong, desk, "make a").size, 4000)
        desk.say("make d")
        for k in range(MANY - 1):
            say(desk, "call", "e", ("same", k, k))
            self.assertEqual(desk.say("make e"), "yes")
        self.assertEqual(self.assert_refused(Full, desk, "make c").many, MANY)
        # What makers refuse goes ahead of what the house does, what is too long ahead of what has no place.
        self.assert_refused(TooGreat, desk, "make b")
        self.assert_refused(TooLong, desk, "make a")
        self.assertEqual(desk.say("make d"), "yes")


class TestEntries(Rows):
    def test_put_take_holds(self):
        desk = desk_of(r=RANGE, a=PARTS[0][1], b=PARTS[1][1], c=PARTS[2][1], t=TURNED)
        self.assertEqual(say(desk, "put", "r", ("each",)), "new")
        self.assertEqual(say(desk, "put", "r", ("each",)), "old")
        self.assertEqual(desk.say("facts"), "0 0")
        for label, entry in zip("abc", PARTS):
            self.assertEqual(desk.say("holds r"), "no")
            self.assertEqual(say(desk, "put", label, entry[2]), "new")
        self.assertEqual((desk.say("holds r"), desk.say("facts")), ("yes", "4 0"))
        self.assertEqual(say(desk, "put", "t", (0,)), "new")
        self.assertEqual((desk.say("facts"), desk.say("holds t")), ("4 1", "yes"))
        self.assertEqual(self.entries(desk), (ALL, *PARTS, WORKED))
        self.assertEqual(say(desk, "take", "b", PARTS[1][2]), "ok")
        self.assertEqual((desk.say("holds r"), desk.say("facts")), ("no", "2 1"))
        self.assertEqual(say(desk, "take", "t", (0,)), "ok")
        self.assertEqual(self.entries(desk), (ALL, PARTS[0], PARTS[2]))

    def test_things_of_every_kind(self):
        for entry, due in NEEDS:
            desk = desk_of(a=entry[1])
            self.assertEqual(say(desk, "put", "a", entry[2]), "new")
            self.assertEqual(self.entries(desk), (entry,))
            self.assertEqual(say(desk, "take", "a", entry[2]), "ok")
            self.assertEqual(desk.say("text"), "-")

    def test_a_working_is_any_thing(self):
        desk = desk_of(t=TURNED)
        for thing in ("x", "5", "-5", "()", "(1 x (2))"):
            self.assertEqual(desk.say("put t " + thing), "new")
        self.assertEqual(desk.say("facts"), "0 0")

    def test_refused(self):
        desk = desk_of(a=("prime", 7), t=TURNED)
        for thing in (5, "x", (), ("judged",), ("found", "x"), ("walk",), (0,)):
            entry = ("fact", ("prime", 7), thing)
            row = show_thing(thing)
            self.assertEqual(self.assert_refused(NoEntry, desk, "put a " + row).entry, entry)
            self.assertEqual(self.assert_refused(NoEntry, desk, "needs a " + row).entry, entry)
            self.assertEqual(self.assert_refused(NotThere, desk, "take a " + row).entry, entry)
        self.assertEqual(self.assert_refused(NotThere, desk, "take t 5").entry, ("claim", TURNED, 5))
        size = self.assert_refused(TooLong, desk, "put t (" + " ".join("1" * 4000) + ")").size
        self.assertGreater(size, 4000)
        for k in range(MANY):
            self.assertEqual(desk.say(f"put t {k}"), "new")
        self.assertEqual(self.assert_refused(Full, desk, "put t 20").many, MANY)
        self.assertEqual(desk.say("put t 19"), "old")

    def test_needs(self):
        for entry, due in NEEDS:
            desk = desk_of(a=entry[1], x=("prime", 99991))
            row = "needs a " + show_thing(entry[2])
            marks = ["a" if what == entry[1] else "?" for what in due]
            self.assertEqual(desk.say(row), " ".join(marks) or "-")
            for at, what in enumerate(due):
                say(desk, "call", "b", what)
                marks = ["a" if other == entry[1] else "b" if other == what else "?" for other in due]
                self.assertEqual(desk.say(row), " ".join(marks))
            self.assertEqual(desk.say("text"), "-")

    def test_needs_take_the_first_label(self):
        desk = desk_of(r=RANGE, z=PARTS[0][1], b=PARTS[0][1], ab=PARTS[0][1], c=PARTS[2][1], ca=PARTS[2][1])
        self.assertEqual(desk.say("needs r (each)"), "ab ? c")
        say(desk, "call", "a", PARTS[0][1])
        say(desk, "call", "r", RANGE)
        self.assertEqual(desk.say("needs r (each)"), "a ? c")
        say(desk, "call", "a", PARTS[1][1])
        self.assertEqual(desk.say("needs r (each)"), "ab a c")
        self.assertEqual(desk.say("needs r (narrow 8 10)"), "r")
        self.assertEqual(desk.say("needs r (spread 10)"), "!")
        self.assertEqual(desk.say("needs r (judged 5)"), "!")
        self.assertEqual(say(desk, "needs", "r", judged(RANGE)[2]), "-")

    def test_hopeless_needs(self):
        for entry in ENTRIES:
            if needs(entry) is None:
                desk = desk_of(a=entry[1])
                self.assertEqual(say(desk, "needs", "a", entry[2]), "!")

    def test_needs_of_great_things(self):
        desk = desk_of(t=TURNED)
        self.assertEqual(desk.say("needs t (" + " ".join("1" * 5000) + ")"), "!")


class TestTold(Rows):
    def test_why(self):
        desk = desk_of(r=RANGE, a=PARTS[0][1], b=PARTS[1][1], c=PARTS[2][1], t=TURNED)
        house = House()
        for label, ground in (("r", ("each",)), ("a", PARTS[0][2]), ("b", ("judged", ("divisor", 2))),
                ("c", PARTS[2][2]), ("b", PARTS[1][2]), ("t", (1, 1)), ("t", (0,))):
            say(desk, "put", label, ground)
            house = House(self.entries(desk))
            for name, what in (("r", RANGE), ("a", PARTS[0][1]), ("b", PARTS[1][1]), ("t", TURNED)):
                word, blank, text = desk.say("why " + name).partition(" ")
                self.assertEqual((word, blank), (desk.say("holds " + name), " "))
                holds = why_holds if word == "yes" else lot_holds
                self.assert_true(holds(house, what, read_thing(text)))

    def test_text(self):
        desk = desk_of(a=("prime", 7), b=EIGHT[1])
        self.assertEqual(desk.say("text"), "-")
        desk.say("make a")
        self.assertEqual(desk.say("text"), show_thing(SEVEN))
        desk.say("make b")
        self.assertEqual(desk.say("text"), show_thing(SEVEN) + " / " + show_thing(EIGHT))

    def test_back(self):
        desk = desk_of(a=("prime", 7), b=EIGHT[1])
        self.assertEqual(desk.say("back 0"), "ok")
        for row in ("make a", "make b", "make a", "make b"):
            desk.say(row)
        say(desk, "take", "a", SEVEN[2])
        self.assertEqual(self.assert_refused(NoBack, desk, "back 4").many, 4)
        self.assertEqual(self.assert_refused(NoBack, desk, "back -1").many, -1)
        self.assertEqual(self.entries(desk), (EIGHT,))
        self.assertEqual(desk.say("back 2"), "ok")
        self.assertEqual(self.entries(desk), (SEVEN, EIGHT))
        self.assertEqual(desk.say("back 0"), "ok")
        self.assertEqual((desk.say("text"), desk.say("names")), ("-", "a b"))
        self.assertEqual(desk.say("make a"), "yes")
        self.assertEqual(self.assert_refused(NoBack, desk, "back " + "9" * 39).many, 10 ** 39 - 1)

    def test_kinds(self):
        desk = desk_of(a=("prime", 7))
        for row in ("names", "make a", "holds a", "why a", "facts", "text", "back 0"):
            self.assertIs(type(desk.say(row=row)), str)


class TestNoRows(Rows):
    def setUp(self):
        self.desk = desk_of(a=("prime", 7), b=TURNED)
        self.desk.say("make a")

    def test_no_text(self):
        for thing in ANYTHING:
            self.assert_refused(NoRow, self.desk, thing)
        for thing in (["names"], ("names",), b"names", {"names": 1}):
            self.assert_refused(NoRow, self.desk, thing)

    def test_unknown_words(self):
        for row in ("", " ", "name", "Names", "NAMES", "says", "says a", "says a 5", "(names)", "5", "-", "a",
                "names\n", "fetch a", "led a", "make\ta", "\nnames", "text\n", "call", "calls a (prime 7)",
                "needs", "Put a (each)"):
            self.assert_refused(NoRow, self.desk, row)

    def test_words_alone(self):
        for word in ("names", "facts", "text"):
            for row in (word + " ", " " + word, word + " a", word + " 5", word + "  ", word + " " + word, word + "\n"):
                self.assert_refused(NoRow, self.desk, row)

    def test_label_rows(self):
        for word in LABEL_WORDS:
            for label in BAD_LABELS:
                self.assert_refused(NoRow, self.desk, word + " " + label)
            for row in (word, word + "  a", word + " a ", " " + word + " a", word + " a a", word + " a (each)",
                    word + " x y", word + "a"):
                self.assert_refused(NoRow, self.desk, row)
            self.assertEqual(self.assert_refused(NoCall, self.desk, word + " x").label, "x")
            self.assertEqual(self.assert_refused(NoCall, self.desk, word + " abcdefgh").label, "abcdefgh")

    def test_thing_rows(self):
        for word in THING_WORDS:
            for label in BAD_LABELS:
                self.assert_refused(NoRow, self.desk, word + " " + label + " (prime 7)")
            for thing in BAD_THINGS:
                # What is no row is told so ahead of a label that calls nothing.
                self.assert_refused(NoRow, self.desk, word + " a " + thing)
                self.assert_refused(NoRow, self.desk, word + " x " + thing)
            for row in (word, word + " a", word + " a ", word + "  a (prime 7)", word + " a  (prime 7)",
                    " " + word + " a (prime 7)", word + " a (prime 7) (prime 7)", word + " (prime 7) a",
                    word + " a b (prime 7)", word + " (prime 7)"):
                self.assert_refused(NoRow, self.desk, row)
        for word in THING_WORDS[1:]:
            for thing in ("(prime 7)", "(each)", "5", "()"):
                self.assertEqual(self.assert_refused(NoCall, self.desk, word + " x " + thing).label, "x")

    def test_back_rows(self):
        for row in ("back", "back ", "back a", "back ()", "back (0)", "back 00", "back 01", "back -0", "back +1",
                "back 1 ", "back  1", "back 1 1", "back 1.0", "back one", " back 1", "back\n1", "back 1\n",
                "back (1 2)"):
            self.assert_refused(NoRow, self.desk, row)

    def test_made_claims_behind_no_call(self):
        self.assert_refused(NoRow, self.desk, "make b")
        self.assert_refused(NoCall, self.desk, "make c")


class TestDesks(Rows):
    def test_apart(self):
        one, other = Desk(), Desk()
        say(one, "call", "a", ("prime", 7))
        one.say("make a")
        self.assertEqual((other.say("names"), other.say("text"), other.say("facts")), ("-", "-", "0 0"))
        self.refused(NoCall, other.say, "make a")
        self.assertRaises(TypeError, Desk, 5)

    def test_asked_again(self):
        desk = desk_of(r=RANGE, a=("prime", 7))
        desk.say("make r")
        for row in ("names", "holds r", "why r", "why a", "facts", "text", "needs r (each)"):
            self.assertEqual(desk.say(row), desk.say(row))

    def test_walks(self):
        chosen = random.Random(8)
        for _ in range(8):
            desk, house, calls = Desk(), House(), {}
            pool = chosen.sample(ENTRIES, 12) + [*PARTS, ALL]
            for entry in pool:
                label = chosen.choice("abcdefgh")
                calls[label] = entry[1]
                say(desk, "call", label, entry[1])
                for label, what in calls.items():
                    self.assertEqual(desk.say("holds " + label), "yes" if house.holds(what) else "no")
                    if entry[1] == what and len(house) < MANY:
                        due = "new" if house.put(entry) else "old"
                        self.assertEqual(say(desk, "put", label, entry[2]), due)
                self.assertEqual(desk.say("facts"), f"{len(house.facts())} {len(house.claims())}")
                self.assertEqual(desk.say("names"), " ".join(sorted(calls)))
                self.assertEqual(self.entries(desk), house.entries())


if __name__ == "__main__":
    unittest.main()
