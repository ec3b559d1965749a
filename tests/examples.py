"""Statements of each sort that has no other one in it, some that are so and some that aren't."""

SO = {
    "same": (("same", ("sum", 2, 2), ("times", 2, 2)), ("same", -5, -5)),
    "below": (("below", -1, 0), ("below", ("power", 2, 10), 1025)),
    "row": (("row", 7, 3, (2, 3)), ("row", 0, 1, (0,)), ("row", 3, 7, (0, 2, 3))),
    "count": (("count", 10, 4), ("count", 0, 0), ("count", 2000, 303)),
    "divides": (("divides", 3, 12), ("divides", 7, 0)),
    "shared": (("shared", 12, 18, 6), ("shared", 0, 0, 0), ("shared", 7, 0, 7)),
    "prime": (("prime", 2), ("prime", 3), ("prime", 97), ("prime", 9973)),
    "factors": (("factors", 1, ()), ("factors", 360, ((2, 3), (3, 2), (5, 1)))),
    "joined": (("joined", ((2, 3), (1, 4)), 5, 12), ("joined", ((0, 1),), 0, 1)),
    "clash": (("clash", ((0, 2), (1, 2))), ("clash", ((0, 10), (1, 3), (1, 15)))),
    "order": (("order", 2, 7, 3), ("order", 1, 9, 1), ("order", 10, 7, 6)),
    "root": (("root", 2, 3), ("root", 3, 7), ("root", 2, 13)),
    "square": (("square", 2, 7), ("square", 4, 15)),
    "squares": (("squares", 2, 25), ("squares", 3, 9), ("squares", 4, 7), ("squares", 2, 0)),
    "pell": (("pell", 2, 3, 2), ("pell", 61, 1766319049, 226153980)),
    "table": (("table", "many", (1, 2, 2, 3)), ("table", "least", (1, 2, 3, 2)), ("table", "total", (1, 3, 4))),
}

NOT_SO = {
    "same": (("same", ("sum", 2, 2), 5),),
    "below": (("below", 0, 0), ("below", 1, 0)),
    "row": (("row", 7, 3, (2, 2, 1)), ("row", 7, 3, ())),
    "count": (("count", 10, 5), ("count", 2000, 302)),
    "divides": (("divides", 5, 12), ("divides", 12, 5)),
    "shared": (("shared", 12, 18, 3), ("shared", 0, 0, 1), ("shared", 5, 7, 0)),
    "prime": (("prime", 0), ("prime", 1), ("prime", 91), ("prime", 9999)),
    "factors": (("factors", 36, ((4, 1), (9, 1))), ("factors", 35, ((5, 1),))),
    "joined": (("joined", ((2, 3), (1, 4)), 6, 12), ("joined", ((2, 3), (1, 4)), 5, 24)),
    "clash": (("clash", ((1, 4), (3, 6))), ("clash", ((0, 1),))),
    "order": (("order", 2, 7, 6), ("order", 2, 6, 2), ("order", 2, 7, 4)),
    "root": (("root", 2, 7), ("root", 2, 9), ("root", 1, 3)),
    "square": (("square", 3, 7), ("square", 2, 15)),
    "squares": (("squares", 2, 7), ("squares", 3, 28), ("squares", 2, 99)),
    "pell": (("pell", 2, 17, 12), ("pell", 2, 3, 3)),
    "table": (("table", "many", (1, 2, 3)), ("table", "least", (2,)), ("table", "total", (1, 3, -4))),
}

# Each statement with whether it is so.
EXAMPLES = [(statement, True) for sort in SO for statement in SO[sort]] + [
    (statement, False) for sort in NOT_SO for statement in NOT_SO[sort]]

# Inner things of ranges: the thing, what it says at a number, and from which number to which it is a statement.
INNERS = [
    (("same", ("times", "n", "n"), ("sum", "n", 6)), lambda n: n * n == n + 6, 0, 200),
    (("below", "n", 9), lambda n: n < 9, 0, 200),
    (("row", "n", 1, ("n",)), lambda n: True, 0, 200),
    (("count", "n", 4), lambda n: 7 <= n <= 10, 0, 200),
    (("divides", 3, "n"), lambda n: n % 3 == 0, 0, 200),
    (("divides", "n", 12), lambda n: 12 % n == 0, 1, 200),
    (("shared", "n", 6, 2), lambda n: n % 6 in (2, 4), 0, 200),
    (("prime", "n"), lambda n: n > 1 and all(n % d for d in range(2, n)), 0, 200),
    (("not", ("prime", "n")), lambda n: n < 2 or any(n % d == 0 for d in range(2, n)), 0, 200),
    (("factors", "n", ((2, 1), (3, 1))), lambda n: n == 6, 1, 200),
    (("joined", ((0, 2), (0, 3)), 0, "n"), lambda n: n == 6, 1, 200),
    (("clash", ((0, 4), (1, "n"))), lambda n: n % 2 == 0, 2, 200),
    (("order", 2, 7, "n"), lambda n: n == 3, 1, 200),
    (("root", "n", 41), lambda n: n in (6, 7, 11, 12, 13, 15, 17, 19, 22, 24, 26, 28, 29, 30, 34, 35), 1, 40),
    (("square", "n", 41), lambda n: any((x * x - n) % 41 == 0 for x in range(41)), 1, 40),
    (("squares", 2, "n"), lambda n: any(a * a + b * b == n for a in range(15) for b in range(15)), 0, 200),
    (("squares", 4, "n"), lambda n: True, 0, 200),
    (("not", ("squares", 4, "n")), lambda n: False, 0, 200),
    (("pell", 3, "n", 4), lambda n: False, 2, 200),
    (("pell", 3, "n", 1), lambda n: n == 2, 2, 200),
    (("table", "total", (1, "n", 4)), lambda n: n == 3, 0, 200),
    (("not", ("table", "least", ("n", "n"))), lambda n: True, 0, 200),
    (("same", 1, 1), lambda n: True, 0, 200),
    (("below", 1, 1), lambda n: False, 0, 200),
]


def ranges():
    """Ranges of each inner thing, over one, two, some and forty numbers, with whether they are so."""
    for inner, is_so, first, last in INNERS:
        for low in sorted({first, first + 1, first + 2, first + 5, 7}):
            for many in (1, 2, 3, 7, 40):
                high = low + many - 1
                if low < first or high > last:
                    continue
                told = [is_so(n) for n in range(low, high + 1)]
                yield ("all", low, high, inner), all(told)
                yield ("some", low, high, inner), any(told)
                yield ("least", low, inner, high), told[-1] and not any(told[:-1])
