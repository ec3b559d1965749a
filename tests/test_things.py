"""Labels, things, sizes, texts (4) and the rising order (2)."""

import string
import unittest

from surenumbers.errors import NoText, NumberError
from surenumbers.things import is_label, is_thing, read_thing, rising, show_thing, size_of
from tests.helpers import ANYTHING, ODD_THINGS, Kept, deep


class TestLabels(Kept):
    def test_labels(self):
        for text in ("a", "z", "n", "walk", "abcdefgh", "stuvwxyz"):
            self.assert_true(is_label(text))
        for letter in string.ascii_lowercase:
            self.assert_true(is_label(letter))

    def test_lengths(self):
        self.assert_false(is_label(""))
        for length in range(1, 9):
            self.assert_true(is_label("x" * length))
        self.assert_false(is_label("x" * 9))
        self.assert_false(is_label("x" * 6000))

    def test_other_signs_at_any_place(self):
        signs = string.ascii_uppercase + string.digits + string.punctuation + " \n"
        for sign in signs + "\t\u00e4\u00df\u0131":
            for text in (sign, sign + "abc", "ab" + sign + "c", "abc" + sign, "abcdefg" + sign):
                with self.subTest(text):
                    self.assert_false(is_label(text))

    def test_no_texts(self):
        for thing in (None, True, False, 0, 1, (), ("a",), ["a"], {"a": "a"}, ("a", "b")):
            self.assert_false(is_label(thing))

    def test_by_name(self):
        self.assert_true(is_label(thing="abc"))


class TestThings(Kept):
    def test_things(self):
        for thing in (0, 1, -1, 10 ** 39, -(10 ** 39), 10 ** 1000, "a", "abcdefgh", (), (1,), ("a", -5, ()),
                ((), ((),))):
            self.assert_true(is_thing(thing))
            self.assert_true(is_thing((thing, 1, "a", (thing,))))

    def test_no_things(self):
        for odd in ODD_THINGS:
            with self.subTest(odd):
                self.assert_false(is_thing(odd))

    def test_no_things_at_any_depth(self):
        for depth in range(26):
            self.assert_true(is_thing(deep((), depth)))
            self.assert_true(is_thing(deep(5, depth)))
            self.assert_true(is_thing(deep("label", depth)))
            for odd in ODD_THINGS:
                with self.subTest(odd, depth=depth):
                    self.assert_false(is_thing(deep(odd, depth)))
                    self.assert_false(is_thing((1, deep(odd, depth))))
                    self.assert_false(is_thing((deep(odd, depth), 1)))

    def test_many_parts(self):
        self.assert_true(is_thing(tuple(range(9999))))
        self.assert_false(is_thing(tuple(range(9999)) + (True,)))

    def test_of_anything(self):
        for thing in ANYTHING:
            self.assertIn(is_thing(thing=thing), (True, False))
            self.assert_kept(is_thing, thing)
            self.assert_kept(is_label, thing)


class TestSizes(Kept):
    def test_all_but_tuples(self):
        for thing in (0, -5, 10 ** 39, True, None, "", "abc", "any text", [], [1, 2, 3], {}, {"a": 1, "b": 2},
                [(1, 2)]):
            self.assertEqual(size_of(thing), 1)

    def test_tuples(self):
        self.assertEqual(size_of(()), 0)
        self.assertEqual(size_of((1,)), 1)
        self.assertEqual(size_of((1, "a", None, True, [1, 2], {})), 6)
        self.assertEqual(size_of(((), ((), ()))), 0)
        self.assertEqual(size_of((1, (2, (3, (4, ()), 5)), 6)), 6)
        self.assertEqual(size_of(((1, 2), (3, [4, 5]))), 4)
        self.assertEqual(size_of(tuple(range(10000))), 10000)

    def test_deep(self):
        for depth in range(26):
            self.assertEqual(size_of(deep((1, 1), depth)), 2)
            self.assertEqual(size_of(deep((), depth)), 0)

    def test_of_anything(self):
        for thing in ANYTHING:
            self.assert_kept(size_of, thing)
        self.assertEqual(size_of(thing=(1, 2)), 2)


TEXTS = (
    (0, "0"), (1, "1"), (9, "9"), (10, "10"), (100, "100"), (-1, "-1"), (-10, "-10"), (-907, "-907"),
    ("a", "a"), ("abcdefgh", "abcdefgh"), ((), "()"), ((1,), "(1)"), (("a",), "(a)"), ((-1, "a"), "(-1 a)"),
    ((1, 2, 3), "(1 2 3)"), (((),), "(())"), (((), ()), "(() ())"), ((1, (2, ()), "b"), "(1 (2 ()) b)"),
    (("same", ("sum", 1, 2), 3), "(same (sum 1 2) 3)"),
)


class TestTexts(Kept):
    def assert_text(self, thing, text):
        self.assertEqual(show_thing(thing), text)
        told = read_thing(text)
        self.assertEqual(repr(told), repr(thing))

    def test_texts(self):
        for thing, text in TEXTS:
            with self.subTest(text):
                self.assert_text(thing, text)

    def test_numbers_of_one_to_forty_figures(self):
        figures = "1234567890123456789012345678901234567890"
        for length in range(1, 41):
            for text in (figures[:length], "9" * length, "1" + "0" * (length - 1)):
                self.assert_text(int(text), text)
                self.assert_text(-int(text), "-" + text)

    def test_numbers_of_a_thousand_figures(self):
        # Lengths at which the figures come in whole groups, and beside these, and beyond what Python's str writes.
        for length in (59, 60, 61, 119, 120, 121, 999, 1000, 1001, 4300, 4301, 6000):
            for text in ("7" * length, "1" + "0" * (length - 1), "9" * length):
                number = read_thing(text)
                self.assertEqual(show_thing(number), text)
                self.assertEqual(show_thing(-number), "-" + text)
                self.assertEqual(read_thing("-" + text), -number)
        self.assertEqual(read_thing("1" + "0" * 1000), 10 ** 1000)
        self.assertEqual(read_thing("9" * 999), 10 ** 999 - 1)
        self.assertEqual(read_thing("1" + "0" * 5000), 10 ** 5000)

    def test_deep(self):
        for depth in range(26):
            self.assert_text(deep((), depth), "(" * depth + "()" + ")" * depth)
            self.assert_text(deep((1, "a"), depth), "(" * depth + "(1 a)" + ")" * depth)

    def test_long(self):
        thing = tuple(range(2000))
        self.assert_text(thing, "(" + " ".join(str(part) for part in thing) + ")")

    def test_by_name(self):
        self.assertEqual(show_thing(thing=(1, "a")), "(1 a)")
        self.assertEqual(read_thing(text="(1 a)"), (1, "a"))

    def test_kept(self):
        self.assert_kept(show_thing, (1, ("a", (2, 3)), ()))
        self.assert_kept(read_thing, "(1 (a (2 3)) ())")


NO_TEXTS = (
    "", " ", "00", "01", "007", "-0", "-00", "-01", "+1", "+0", "--1", "-", "1-", "1-2", "- 1", "1.0", "1e3", "1_000",
    "0x1",
    "1a", "a1", "-a", "A", "Abc", "aBc", "abC", "abcdefghi", "a.b", "a_b", "a-b", "?", "!", "'a'", '"a"', "~",
    " 1", "1 ", " a", "a ", "\n1", "1\n", "1\n2", "a\n", "a\nb", "\n", "1\t", "\r1", "1\r\n",
    "1 2", "a b", "() ()", "1 ()", "() 1", "()()", "(1)(2)", "1()", "()1", "a()", "()a",
    "(", ")", "((", "))", ")(", "(()", "())", "((1)", "(1))", "(1", "1)", "(1 (2)", "(1 2))", "()(", ")()",
    "( 1)", "(1 )", "( )", "(  )", "(1  2)", "(1   2)", "(1\n2)", "(1\t2)", "(\n)", "( () )", "(() )", "( ())",
    "(()())", "(1())", "(()1)", "(a())", "(()a)", "((1)(2))", "(1 2)3", "3(1 2)",
    "(1,)", "(1, 2)", "[1]", "[]", "{1}", "{}", "(01)", "(-0)", "(+1)", "(1 -0)", "(abcdefghi)", "(A)", "(True)",
    "None",
    "(1 2) ", " (1 2)", "(1 2)\n", "\u0661", "(\u0661)", "\u00b2", "\u00e4", "(\u00a01)",
)


class TestNoTexts(Kept):
    def assert_refused(self, text):
        with self.assertRaises(NoText) as taken:
            read_thing(text)
        self.assertIs(taken.exception.text, text)
        self.assertIsInstance(taken.exception, NumberError)

    def test_not_so_written(self):
        for text in NO_TEXTS:
            with self.subTest(text):
                self.assert_refused(text)

    def test_no_text_in_brackets_either(self):
        for text in ("00", "-0", "+1", "abcdefghi", " ", " 1", "1 ", "1  2", "1\n", "(", ")", "()()", "A", "1a"):
            for depth in range(1, 25):
                with self.subTest(text, depth=depth):
                    self.assert_refused("(" * depth + text + ")" * depth)

    def test_great_wrong_texts(self):
        self.assert_refused("0" * 1000)
        self.assert_refused("0" + "1" * 999)
        self.assert_refused("-" + "0" * 1000)
        self.assert_refused("x" * 6000)
        self.assert_refused(" " * 6000)
        self.assert_refused(")" * 6000)
        self.assert_refused("()" * 3000)
        self.assert_refused("(" * 25)
        self.assert_refused("0" * 6000)

    def test_no_texts_at_all(self):
        for thing in (None, True, False, 0, 1, -5, (), ("a",), (1, "a"), [], ["1"], {}, {"a": 1}, [1, [2]]):
            with self.subTest(thing):
                self.assert_refused(thing)

    def test_by_name(self):
        self.assertRaises(NoText, read_thing, text="01")

    def test_each_change_of_a_sign(self):
        # Whatever is read is just what is so written.
        text = "(a -10 (b 2) () 305)"
        for at in range(len(text) + 1):
            for sign in "()-0 1aA\n":
                for other in (text[:at] + sign + text[at:], text[:at] + sign + text[at + 1:],
                        text[:at] + text[at + 1:]):
                    with self.subTest(other):
                        try:
                            thing = read_thing(other)
                        except NoText as refused:
                            self.assertIs(refused.text, other)
                        else:
                            self.assert_true(is_thing(thing))
                            self.assertEqual(show_thing(thing), other)


class TestRising(Kept):
    def test_as_texts(self):
        self.assertEqual(rising((9, 10)), (10, 9))
        self.assertEqual(rising((10, 9, 1, 100, 99)), (1, 10, 100, 9, 99))
        self.assertEqual(rising((5, -5, 0, -10, -9)), (-10, -5, -9, 0, 5))
        self.assertEqual(rising(("b", "a", "ab", "aa")), ("a", "aa", "ab", "b"))
        self.assertEqual(rising(((1,), "a", 1, -1, ())), ((), (1,), -1, 1, "a"))

    def test_each_once(self):
        self.assertEqual(rising((1, 1, 1)), (1,))
        self.assertEqual(rising(((1, "a"), 2, (1, "a"), 2, (1, ("a",)))), ((1, ("a",)), (1, "a"), 2))
        self.assertEqual(rising(()), ())

    def test_of_one_to_three_figures(self):
        things = tuple(range(-120, 121)) + tuple(range(-5, 300)) + ("a", "z", "b", "a", (), (1, 2), (10, 2), (9, 2),
                (1, 2))
        told = rising(things)
        self.assertEqual(type(told), tuple)
        texts = [show_thing(thing) for thing in told]
        self.assertEqual(texts, sorted(set(show_thing(thing) for thing in things)))
        self.assertEqual(rising(things[::-1]), told)
        self.assertEqual(rising(told), told)

    def test_by_name_and_kept(self):
        self.assertEqual(rising(things=(2, 1)), (1, 2))
        self.assert_kept(rising, (3, 1, (2, 1), "b", "a", 3))


if __name__ == "__main__":
    unittest.main()
