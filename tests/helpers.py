"""Values of all kinds that the tests hand in."""

import copy
import math
import unittest

# Things of all kinds that are no whole number, no label and no tuple.
ODD_THINGS = (None, True, False, "", "Abc", "a b", "ninechars", [], [1], {}, {"a": 1})

ANYTHING = ODD_THINGS + (
    0, 1, -1, 7, 10 ** 39, -(10 ** 39), "a", "walk", "n", "(", "(1 2)", "1\n", (), (1,), ((),), (1, "a", (2, "b")),
    (True,), (None, [1]), ("walk", 1), ["walk"], ("times", 1), [("walk",)], {"walk": ("walk",)}, ("walk", None),
)


def deep(inner, depth):
    """The inner thing in so many tuples, one in another."""
    for _ in range(depth):
        inner = (inner,)
    return inner


def has_form(thing, form):
    """Whether this is made like the form: int a whole number, a text itself, [form] a tuple of however many."""
    if form is int:
        return type(thing) is int
    if isinstance(form, str):
        return type(thing) is str and thing == form
    if type(thing) is not tuple:
        return False
    if isinstance(form, list):
        return all(has_form(part, form[0]) for part in thing)
    return len(thing) == len(form) and all(has_form(part, inner) for part, inner in zip(thing, form))


CHAIN = [(int, int, [(int, int)])]


def is_right_chain(thing):
    """Point 9 word by word, of anything."""
    if not has_form(thing, CHAIN):
        return False
    for at, (p, g, factors) in enumerate(thing):
        ahead = [2] + [row[0] for row in thing[:at]]
        qs = [q for q, e in factors]
        if p % 2 == 0 or not 3 <= p <= 99999 or at > 0 and p <= thing[at - 1][0] or not 2 <= g <= p - 1:
            return False
        if qs != sorted(set(qs)) or not all(q in ahead and 1 <= e <= 130 for q, e in factors):
            return False
        if math.prod(q ** e for q, e in factors) != p - 1:
            return False
        if pow(g, p - 1, p) != 1 or any(pow(g, (p - 1) // q, p) == 1 for q in qs):
            return False
    return True


def spoilt(thing):
    """The thing with something in it otherwise, at each place, in several ways; some of these may be right still."""
    if isinstance(thing, tuple):
        yield list(thing)
        yield thing[::-1]
        yield thing + (0,)
        for at, part in enumerate(thing):
            yield thing[:at] + thing[at + 1:]
            yield thing[:at] + (part,) + thing[at:]
            for other in spoilt(part):
                yield thing[:at] + (other,) + thing[at + 1:]
    elif isinstance(thing, str):
        yield from (thing + "s", "", (thing,), None, 0)
    else:
        yield from (thing + 1, thing - 1, -thing, 2 * thing, 0, 1, bool(thing), True, None, str(thing), (thing,),
                [thing], thing + 10 ** 39)


class Kept(unittest.TestCase):
    """Tests that can look whether what is handed in stays as it is."""

    def assert_kept(self, function, *handed):
        before = copy.deepcopy(handed)
        first = function(*handed)
        self.assertEqual(repr(before), repr(handed))
        self.assertEqual(repr(first), repr(function(*handed)))

    def assert_true(self, told):
        self.assertIs(told, True)

    def assert_false(self, told):
        self.assertIs(told, False)


class Judged(Kept):
    """Tests of a module's three functions: what shows, what denies, what is made."""

    shows = denies = made = None

    def is_yes(self, statement, thing):
        """Whether this is a yes; it is no no then, too."""
        told = type(self).shows(statement, thing)
        self.assertIn(told, (True, False))
        if told:
            self.assert_false(type(self).denies(statement, thing))
        return told

    def is_no(self, statement, thing):
        """Whether this is a no; it is no yes then, too."""
        told = type(self).denies(statement, thing)
        self.assertIn(told, (True, False))
        if told:
            self.assert_false(type(self).shows(statement, thing))
        return told

    def assert_yes(self, statement, thing):
        self.assertTrue(self.is_yes(statement, thing), (statement, thing))

    def assert_no(self, statement, thing):
        self.assertTrue(self.is_no(statement, thing), (statement, thing))

    def assert_neither(self, statement, thing):
        self.assertFalse(self.is_yes(statement, thing), (statement, thing))
        self.assertFalse(self.is_no(statement, thing), (statement, thing))

    def assert_made(self, statement, is_so):
        """What is made is let by, on its side alone, and the side is the right one."""
        told = type(self).made(statement)
        self.assertEqual((type(told), len(told), told[0]), (tuple, 2, "yes" if is_so else "no"), statement)
        if is_so:
            self.assert_yes(statement, told[1])
        else:
            self.assert_no(statement, told[1])
        return told[1]

    def assert_as_due(self, statement, thing, is_due_yes, is_due_no):
        """Each side lets by just what is due on it, of the thing and of all that comes of it by spoiling it."""
        for other in (thing, *spoilt(thing)):
            self.assertIs(type(self).shows(statement, other), is_due_yes(statement, other), (statement, other))
            self.assertIs(type(self).denies(statement, other), is_due_no(statement, other), (statement, other))

    def assert_only_statements(self, right, wrong, thing):
        """What is a yes or a no of the right one is neither of what is no statement of these sorts."""
        self.assertTrue(self.is_yes(right, thing) or self.is_no(right, thing))
        for statement in wrong:
            self.assert_neither(statement, thing)

    def assert_by_names(self, statement):
        """The arguments can be handed in by their names; what is handed in stays as it is."""
        word, thing = type(self).made(statement=statement)
        self.assertIs(type(self).shows(statement=statement, thing=thing), word == "yes")
        self.assertIs(type(self).denies(thing=thing, statement=statement), word == "no")
        for function in (type(self).shows, type(self).denies):
            self.assert_kept(function, statement, thing)
            for other in ANYTHING:
                self.assert_kept(function, statement, other)
        self.assert_kept(type(self).made, statement)
