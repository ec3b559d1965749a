"""Values of all kinds that the tests hand in."""

import copy
import unittest

# Things of all kinds that are no whole number, no label and no tuple.
ODD_THINGS = (None, True, False, "", "Abc", "a b", "ninechars", [], [1], {}, {"a": 1})

ANYTHING = ODD_THINGS + (
    0, 1, -1, 7, 10 ** 39, -(10 ** 39), "a", "walk", "n", "(", "(1 2)", "1\n", (), (1,), ((),), (1, "a", (2, "b")),
    (True,), (None, [1]), ("walk", 1), ["walk"], ("times", 1), [("walk",)], {"walk": ("walk",)}, ("walk", None),
)


def deep(inner, depth):
    """The inner thing in so many tuples, one in another."""
    for _ in range(depth):
        inner = (inner,)
    return inner


class Kept(unittest.TestCase):
    """Tests that can look whether what is handed in stays as it is."""

    def assert_kept(self, function, *handed):
        before = copy.deepcopy(handed)
        first = function(*handed)
        self.assertEqual(repr(before), repr(handed))
        self.assertEqual(repr(first), repr(function(*handed)))

    def assert_true(self, told):
        self.assertIs(told, True)

    def assert_false(self, told):
        self.assertIs(told, False)
