"""The bounds and words of the interface."""

import unittest

from surenumbers import kinds


class TestKinds(unittest.TestCase):
    def test_bounds(self):
        self.assertEqual((kinds.LIMIT, kinds.MOST, kinds.MANY), (10000, 4000, 20))
        for number in (kinds.LIMIT, kinds.MOST, kinds.MANY):
            self.assertIs(type(number), int)

    def test_words(self):
        self.assertEqual(kinds.WORDS, ("many", "total", "least"))
        self.assertIs(type(kinds.WORDS), tuple)


if __name__ == "__main__":
    unittest.main()
