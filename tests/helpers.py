"""Values of all kinds that the tests hand in."""

import copy
import unittest

# Things of all kinds that are no whole number, no label and no tuple.
ODD_THINGS = (None, True, False, "", "Abc", "a b", "ninechars", [], [1], {}, {"a": 1})

ANYTHING = ODD_THINGS + (
    0, 1, -1, 7, 10 ** 39, -(10 ** 39), "a", "walk", "n", "(", "(1 2)", "1\n", (), (1,), ((),), (1, "a", (2, "b")),
    (True,), (None, [1]), ("walk", 1), ["walk"], ("times", 1), [("walk",)], {"walk": ("walk",)}, ("walk", None),
)


def deep(inner, depth):
    """The inner thing in so many tuples, one in another."""
    for _ in range(depth):
        inner = (inner,)
    return inner


class Kept(unittest.TestCase):
    """Tests that can look whether what is handed in stays as it is."""

    def assert_kept(self, function, *handed):
        before = copy.deepcopy(handed)
        first = function(*handed)
        self.assertEqual(repr(before), repr(handed))
        self.assertEqual(repr(first), repr(function(*handed)))

    def assert_true(self, told):
        self.assertIs(told, True)

    def assert_false(self, told):
        self.assertIs(told, False)


class Judged(Kept):
    """Tests of a module's three functions: what shows, what denies, what is made."""

    shows = denies = made = None

    def is_yes(self, statement, thing):
        """Whether this is a yes; it is no no then, too."""
        told = type(self).shows(statement, thing)
        self.assertIn(told, (True, False))
        if told:
            self.assert_false(type(self).denies(statement, thing))
        return told

    def is_no(self, statement, thing):
        """Whether this is a no; it is no yes then, too."""
        told = type(self).denies(statement, thing)
        self.assertIn(told, (True, False))
        if told:
            self.assert_false(type(self).shows(statement, thing))
        return told

    def assert_yes(self, statement, thing):
        self.assertTrue(self.is_yes(statement, thing), (statement, thing))

    def assert_no(self, statement, thing):
        self.assertTrue(self.is_no(statement, thing), (statement, thing))

    def assert_neither(self, statement, thing):
        self.assertFalse(self.is_yes(statement, thing), (statement, thing))
        self.assertFalse(self.is_no(statement, thing), (statement, thing))

    def assert_made(self, statement, is_so):
        """What is made is let by, on its side alone, and the side is the right one."""
        told = type(self).made(statement)
        self.assertEqual((type(told), len(told), told[0]), (tuple, 2, "yes" if is_so else "no"), statement)
        if is_so:
            self.assert_yes(statement, told[1])
        else:
            self.assert_no(statement, told[1])
        return told[1]

    def assert_only_statements(self, right, wrong, thing):
        """What is a yes or a no of the right one is neither of what is no statement of these sorts."""
        self.assertTrue(self.is_yes(right, thing) or self.is_no(right, thing))
        for statement in wrong:
            self.assert_neither(statement, thing)

    def assert_by_names(self, statement):
        """The arguments can be handed in by their names; what is handed in stays as it is."""
        word, thing = type(self).made(statement=statement)
        self.assertIs(type(self).shows(statement=statement, thing=thing), word == "yes")
        self.assertIs(type(self).denies(thing=thing, statement=statement), word == "no")
        for function in (type(self).shows, type(self).denies):
            self.assert_kept(function, statement, thing)
            for other in ANYTHING:
                self.assert_kept(function, statement, other)
        self.assert_kept(type(self).made, statement)
