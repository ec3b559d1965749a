"""Texts of houses, written and read (25)."""

import random
import unittest

from surenumbers.errors import NoLine
from surenumbers.houses import House
from surenumbers.housetexts import read_house, show_house
from surenumbers.kinds import MANY, MOST
from surenumbers.things import show_thing, size_of
from tests.entries import CHAIN, ENTRIES, HOPELESS, PLAIN, RING_OF_THREE, same
from tests.helpers import ANYTHING
from tests.test_houses import ALL, EIGHT, PARTS, POOL, SEVEN, WORKED, Counted, full_house

TEXT = show_thing(SEVEN)
OTHER = show_thing(EIGHT)


class TestWritten(Counted):
    def test_rows(self):
        self.assertEqual(show_house(House()), "")
        self.assertEqual(show_house(House((SEVEN,))), TEXT)
        self.assertEqual(show_house(house=House((SEVEN, EIGHT))), TEXT + "\n" + OTHER)
        self.assertEqual(show_house(House(CHAIN)).split("\n"), [show_thing(entry) for entry in CHAIN])

    def test_as_the_house_is_now(self):
        house = House((SEVEN, EIGHT))
        house.take(SEVEN)
        house.put(WORKED)
        house.put(SEVEN)
        self.assertEqual(show_house(house), "\n".join((OTHER, show_thing(WORKED), TEXT)))
        self.assertEqual(show_house(house), str(house))
        house.back(0)
        self.assertEqual(show_house(house), "")


class TestRead(Counted):
    def assert_back(self, entries):
        house = House(tuple(entries))
        read = read_house(show_house(house))
        self.assert_house(read, entries)
        self.assertEqual(show_house(read), show_house(house))
        self.assertEqual((read.looks(), read.log()), (len(entries), (0, 0)))
        for many in range(len(entries), -1, -1):
            read.back(many)
            self.assertEqual(read.entries(), tuple(entries[:many]))
        self.assert_house(house, entries)

    def test_back(self):
        for entries in ((), (SEVEN,), (SEVEN, EIGHT), (EIGHT, SEVEN), (ALL, *PARTS), CHAIN, RING_OF_THREE,
                tuple(HOPELESS[:MANY])):
            self.assert_back(entries)
        for entry in ENTRIES:
            self.assert_back((entry,))
        chosen = random.Random(2)
        for _ in range(20):
            self.assert_back(chosen.sample(POOL, MANY))

    def refused_line(self, text, line, **named):
        self.assertEqual(self.refused(NoLine, read_house, text, **named).line, line)

    def test_no_text(self):
        for thing in ANYTHING:
            if type(thing) is not str:
                self.refused_line(thing, 0)
        self.refused_line([TEXT], 0)
        self.refused_line(House((SEVEN,)), 0)

    def test_no_text_of_an_entry(self):
        for wrong in (" " + TEXT, TEXT + " ", TEXT + "\t", TEXT.replace(" ", "  ", 1), "x", "5", "()", "(prime 7)",
                TEXT[:-1], TEXT + ")", "(" + TEXT + ")", TEXT.replace("7", "07"), TEXT.replace("fact", "facts"),
                TEXT.replace("7", "-0"), TEXT + TEXT, TEXT + " " + OTHER, "(fact (prime 7) (each) 0)", " ", "-",
                TEXT + "\r", TEXT.upper(), "(fact (prime -7) (each))", "(claim (prime 7) ())"):
            self.refused_line(wrong, 0)
            self.refused_line(wrong + "\n" + OTHER, 0)
            self.refused_line(show_thing(WORKED) + "\n" + wrong, 1)
            self.refused_line(show_thing(WORKED) + "\n" + OTHER + "\n" + wrong + "\n" + wrong, 2)
            self.refused_line("\n".join([show_thing(same(k)) for k in range(MANY - 1)] + [wrong]), MANY - 1)

    def test_line_ends(self):
        self.refused_line("\n", 0)
        self.refused_line("\n\n", 0)
        self.refused_line("\n" + TEXT, 0)
        self.refused_line(TEXT + "\n", 1)
        self.refused_line(TEXT + "\n\n" + OTHER, 1)
        self.refused_line(TEXT + "\n" + OTHER + "\n", 2)
        self.refused_line(TEXT + "\n" + OTHER + "\n\n", 2)
        self.refused_line(show_house(full_house()) + "\n", MANY)

    def test_once_more(self):
        self.refused_line(TEXT + "\n" + TEXT, 1)
        self.refused_line("\n".join((TEXT, OTHER, show_thing(ALL), OTHER, "x")), 3)

    def test_too_long(self):
        for entry in (SEVEN, EIGHT, WORKED, ALL):
            text = show_thing(entry)
            size = size_of(entry)
            self.assert_house(read_house(text, most=size), (entry,))
            self.refused_line(text, 0, most=size - 1)
            self.refused_line(text, 0, most=0)
        self.refused_line(OTHER + "\n" + TEXT + "\n" + TEXT, 1, most=size_of(SEVEN) - 1)
        self.assert_house(read_house("", most=0), ())
        # What is read has this most, too.
        house = read_house(OTHER, most=size_of(EIGHT))
        self.assertRaises(ValueError, house.put, SEVEN)
        longest = ("claim", PLAIN, (1,) * (MOST - size_of(("claim", PLAIN))))
        self.assert_house(read_house(show_thing(longest)), (longest,))
        longer = show_thing(("claim", PLAIN, longest[2] + (1,)))
        self.refused_line(longer, 0)
        self.assertEqual(len(read_house(longer, most=MOST + 1)), 1)

    def test_behind_many(self):
        rows = [show_thing(same(k)) for k in range(MANY + 2)]
        self.assertEqual(len(read_house("\n".join(rows[:MANY]))), MANY)
        self.refused_line("\n".join(rows[:MANY + 1]), MANY)
        self.refused_line("\n".join(rows), MANY)
        self.refused_line("\n".join(rows[:MANY] + rows[:1]), MANY)
        self.refused_line("\n".join(rows[:MANY] + ["x"]), MANY)
        self.refused_line("\n".join(rows[:MANY - 1] + rows[:1] + rows[MANY:]), MANY - 1)

    def test_of_anything(self):
        for thing in ANYTHING:
            if thing != "":
                self.refused(NoLine, read_house, thing)
        self.assertRaises(TypeError, read_house, TEXT, 100)
        self.assert_house(read_house(most=100, text=TEXT), (SEVEN,))


if __name__ == "__main__":
    unittest.main()
