"""Rows, tables and their sums (22)."""

import math
import unittest

from surenumbers.kinds import WORDS
from surenumbers.tables import due_sum, row_of, sum_of, table_of
from tests.helpers import Kept


def right_row(word, number):
    divisors = [d for d in range(1, number + 1) if number % d == 0]
    if word == "least":
        return min(divisors[1:], default=1)
    return {"many": len, "total": sum}[word](divisors)


RIGHT = {word: [right_row(word, number) for number in range(1, 2001)] for word in WORDS}


class TestRows(Kept):
    def test_every_number(self):
        for word in WORDS:
            for number in range(1, 2001):
                self.assertEqual(row_of(word, number), RIGHT[word][number - 1])

    def test_known_ones(self):
        for number, many, total, least in ((1, 1, 1, 1), (2, 2, 3, 2), (3, 2, 4, 3), (4, 3, 7, 2), (6, 4, 12, 2),
                (9, 3, 13, 3), (16, 5, 31, 2), (97, 2, 98, 97), (1024, 11, 2047, 2), (1849, 3, 1893, 43),
                (1999, 2, 2000, 1999), (2000, 20, 4836, 2)):
            self.assertEqual([row_of(word, number) for word in ("many", "total", "least")], [many, total, least])

    def test_by_names(self):
        self.assertEqual(row_of(word="total", number=6), 12)
        self.assertEqual(row_of(number=6, word="many"), 4)
        self.assert_kept(row_of, "least", 9)


class TestTables(Kept):
    def test_sizes(self):
        for word in WORDS:
            for size in (1, 2, 3, 10, 199, 200):
                self.assertEqual(table_of(word, size), tuple(RIGHT[word][:size]))
        self.assertEqual(table_of("many", 6), (1, 2, 2, 3, 2, 4))
        self.assertEqual(table_of("total", 6), (1, 3, 4, 7, 6, 12))
        self.assertEqual(table_of("least", 6), (1, 2, 3, 2, 5, 2))
        self.assertEqual(table_of("least", 1), (1,))

    def test_by_names(self):
        self.assertEqual(table_of(size=2, word="total"), (1, 3))
        self.assertIsInstance(table_of("many", 200), tuple)
        self.assert_kept(table_of, "many", 200)


class TestSums(Kept):
    def test_powers(self):
        for power in range(10):
            self.assertEqual(sum_of((), power), 0)
            self.assertEqual(sum_of((5,), power), 5)
            self.assertEqual(sum_of((0, 1), power), 2 ** power)
            self.assertEqual(sum_of((5, -3, 0, 7), power), 5 - 3 * 2 ** power + 7 * 4 ** power)
            great = (10 ** 39, -(10 ** 39), 10 ** 500 + 1)
            self.assertEqual(sum_of(great, power), great[0] + great[1] * 2 ** power + great[2] * 3 ** power)
            rows = tuple((-1) ** n * n ** 3 for n in range(200))
            self.assertEqual(sum_of(rows, power), sum((at + 1) ** power * row for at, row in enumerate(rows)))

    def test_by_names(self):
        self.assertEqual(sum_of(power=2, rows=(1, 1)), 5)
        self.assert_kept(sum_of, (1, -2, 3), 9)


class TestDueSums(Kept):
    def test_each(self):
        for word in ("many", "total"):
            for size in list(range(1, 40)) + [100, 199, 200]:
                for power in range(10):
                    due = sum(n ** power * RIGHT[word][n - 1] for n in range(1, size + 1))
                    self.assertEqual(due_sum(word, size, power), due)
                    self.assertEqual(due_sum(word, size, power), sum_of(table_of(word, size), power))

    def test_known_ones(self):
        self.assertEqual(due_sum("many", 1, 9), 1)
        self.assertEqual(due_sum("many", 2, 0), 3)
        self.assertEqual(due_sum("total", 2, 1), 7)
        self.assertEqual(due_sum("many", 100, 0), sum(100 // d for d in range(1, 101)))
        self.assertEqual(due_sum("total", 100, 0), sum(d * (100 // d) for d in range(1, 101)))
        self.assertEqual(math.prod((due_sum("total", 3, 1), due_sum("many", 3, 1))), (1 + 6 + 12) * (1 + 4 + 6))

    def test_by_names(self):
        self.assertEqual(due_sum(power=1, size=2, word="total"), 7)
        self.assert_kept(due_sum, "total", 200, 9)


if __name__ == "__main__":
    unittest.main()
