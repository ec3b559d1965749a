"""Claims, entries of each ground, and rows of entries that hold each other up, for the tests of houses."""

from surenumbers.making import made


def judged(statement):
    """The fact with what is made for it; the statement is so."""
    side, thing = made(statement, limit=10 ** 6)
    assert side == "yes", statement
    return ("fact", statement, ("judged", thing))


def fact(statement, *ground):
    return ("fact", statement, ground)


def same(k):
    """A fact for each number, none of which needs anything."""
    return fact(("same", k, k), "judged", ("walk",))


def link(k):
    """A fact of the number that needs the one of the number below: ("below", k, k + 1) by a claim of one given."""
    return fact(("same", ("sum", k, 1), ("sum", 1, k)), "claim", TURNED, (k,))


# Each claim with a working of it.
TURNED = (("a",), (("a", "a"),), (("sum", "a", 1), ("sum", 1, "a")))
SQUARED = (("a", "b"), (), (("power", ("sum", "a", "b"), 2),
        ("sum", ("power", "a", 2), ("sum", ("times", 2, ("times", "a", "b")), ("power", "b", 2)))))
PASSED_ON = (("a", "b", "c"), (("a", "b"), ("b", "c")), ("a", "c"))
EVENLY = (("a", "b"), (("a", "b"),), (("power", "a", 2), ("power", "b", 2)))
THRICE = (("x", "y", "z"), (("x", 1), ("y", 2), ("z", 3)), (("times", "x", ("times", "y", "z")), 6))
PLAIN = ((), (), (("sum", 2, 2), 4))
NAMED = (("power", "sum"), (("sum", "power"),), (("times", "sum", "sum"), ("power", "power", 2)))
WORKINGS = (
    (TURNED, (0,)),
    (SQUARED, ()),
    (PASSED_ON, (1, 1)),
    (EVENLY, (("sum", "a", "b"),)),
    (THRICE, (("times", "y", "z"), "z", 2)),
    (PLAIN, ()),
    (NAMED, (("sum", "sum", "power"),)),
)

COMPOSITE = ("not", ("prime", "n"))
RANGE = ("all", 8, 10, COMPOSITE)
WIDE = ("all", 24, 28, COMPOSITE)
SOME = ("some", 8, 11, ("prime", "n"))
MANY_TABLE = ("table", "many", (1, 2, 2, 3, 2))
LEAST_TABLE = ("table", "least", (1, 2, 3, 2, 5, 2))
TOTAL_TABLE = ("table", "total", (1, 3, 4, 7, 6))

# Each entry with what it needs.
NEEDS = [(("claim", claim, working), ()) for claim, working in WORKINGS] + [
    (judged(("prime", 7)), ()),
    (judged(("not", ("prime", 91))), ()),
    (judged(RANGE), ()),
    (judged(SOME), ()),
    (judged(("least", 8, ("prime", "n"), 11)), ()),
    (judged(("not", ("all", 0, 5, ("prime", "n")))), ()),
    (fact(("same", ("sum", 5, 1), ("sum", 1, 5)), "claim", TURNED, (5,)), (TURNED, ("same", 5, 5))),
    (fact(("same", 3, 4), "claim", PASSED_ON, (3, 9, 4)), (PASSED_ON, ("same", 3, 9), ("same", 9, 4))),
    (fact(("same", 3, 3), "claim", PASSED_ON, (3, 3, 3)), (PASSED_ON, ("same", 3, 3), ("same", 3, 3))),
    (fact(("same", ("sum", 2, 2), 4), "claim", PLAIN, ()), (PLAIN,)),
    (fact(("same", ("times", -3, -3), ("power", 7, 2)), "claim", NAMED, (7, -3)), (NAMED, ("same", -3, 7))),
    (fact(("not", ("prime", 8)), "at", RANGE, 8), (RANGE,)),
    (fact(("not", ("prime", 10)), "at", RANGE, 10), (RANGE,)),
    (fact(SOME, "found", 8), (("prime", 8),)),
    (fact(SOME, "found", 11), (("prime", 11),)),
    (fact(RANGE, "each"), (("not", ("prime", 8)), ("not", ("prime", 9)), ("not", ("prime", 10)))),
    (fact(("all", 4, 4, ("prime", 7)), "each"), (("prime", 7),)),
    (fact(RANGE, "spread", 8), (("all", 8, 8, COMPOSITE), ("all", 9, 10, COMPOSITE))),
    (fact(RANGE, "spread", 9), (("all", 8, 9, COMPOSITE), ("all", 10, 10, COMPOSITE))),
    (fact(("all", 25, 26, COMPOSITE), "narrow", 24, 28), (WIDE,)),
    (fact(RANGE, "narrow", 8, 10), (RANGE,)),
    (fact(RANGE, "narrow", 0, 39), (("all", 0, 39, COMPOSITE),)),
    (fact(("prime", 3), "row", MANY_TABLE, 3), (MANY_TABLE,)),
    (fact(("not", ("prime", 4)), "row", MANY_TABLE, 4), (MANY_TABLE,)),
    (fact(("not", ("prime", 1)), "row", MANY_TABLE, 1), (MANY_TABLE,)),
    (fact(("prime", 5), "row", LEAST_TABLE, 5), (LEAST_TABLE,)),
    (fact(("not", ("prime", 6)), "row", LEAST_TABLE, 6), (LEAST_TABLE,)),
    (fact(("not", ("prime", 1)), "row", LEAST_TABLE, 1), (LEAST_TABLE,)),
    (fact(("divides", 1, 1), "row", LEAST_TABLE, 1), (LEAST_TABLE,)),
    (fact(("divides", 2, 6), "row", LEAST_TABLE, 6), (LEAST_TABLE,)),
]

# Entries that can't be shown whatever holds.
HOPELESS = [
    ("claim", PASSED_ON, (1, 2)),
    ("claim", PASSED_ON, (1,)),
    ("claim", SQUARED, (1,)),
    ("claim", PLAIN, 0),
    ("claim", ((), (), (2, 3)), ()),
    ("claim", EVENLY, (("sum", "a", "c"),)),
    fact(("prime", 7), "judged", ("divisor", 2)),
    fact(("prime", 8), "judged", ("divisor", 2)),
    fact(("prime", 8), "judged", 5),
    fact(("same", 6, 6), "claim", TURNED, (6,)),
    fact(("same", ("sum", 5, 1), ("sum", 1, 5)), "claim", TURNED, (6,)),
    fact(("same", ("sum", 5, 1), ("sum", 1, 5)), "claim", TURNED, ()),
    fact(("same", ("sum", 5, 1), ("sum", 1, 5)), "claim", TURNED, (5, 5)),
    fact(("same", 3, 4), "claim", PASSED_ON, (3, 10 ** 120, 4)),
    fact(("prime", 7), "claim", TURNED, (7,)),
    fact(("not", ("prime", 7)), "at", RANGE, 7),
    fact(("not", ("prime", 11)), "at", RANGE, 11),
    fact(("not", ("prime", 9)), "at", RANGE, 10),
    fact(("prime", 9), "at", RANGE, 9),
    fact(("prime", 9), "at", SOME, 9),
    fact(("prime", 9), "at", ("prime", 9), 9),
    fact(("prime", 9), "at", ("not", ("all", 8, 10, ("prime", "n"))), 9),
    fact(SOME, "found", 7),
    fact(SOME, "found", 12),
    fact(RANGE, "found", 8),
    fact(("prime", 7), "found", 7),
    fact(SOME, "each"),
    fact(("prime", 7), "each"),
    fact(("not", RANGE), "each"),
    fact(("least", 8, ("prime", "n"), 11), "each"),
    fact(RANGE, "spread", 7),
    fact(RANGE, "spread", 10),
    fact(SOME, "spread", 9),
    fact(("all", 4, 4, ("prime", 7)), "spread", 4),
    fact(RANGE, "narrow", 9, 10),
    fact(RANGE, "narrow", 8, 9),
    fact(RANGE, "narrow", -1, 10),
    fact(RANGE, "narrow", 0, 40),
    fact(SOME, "narrow", 8, 11),
    fact(("prime", 7), "narrow", 7, 7),
    fact(("all", 1, 2, ("divides", "n", 6)), "narrow", 0, 2),
    fact(("prime", 4), "row", MANY_TABLE, 4),
    fact(("not", ("prime", 3)), "row", MANY_TABLE, 3),
    fact(("prime", 3), "row", MANY_TABLE, 5),
    fact(("not", ("prime", 6)), "row", MANY_TABLE, 6),
    fact(("not", ("prime", 0)), "row", MANY_TABLE, 0),
    fact(("divides", 2, 3), "row", MANY_TABLE, 3),
    fact(("prime", 1), "row", LEAST_TABLE, 1),
    fact(("divides", 3, 6), "row", LEAST_TABLE, 6),
    fact(("prime", 3), "row", TOTAL_TABLE, 3),
    fact(("not", ("prime", 4)), "row", TOTAL_TABLE, 4),
    fact(("divides", 3, 3), "row", TOTAL_TABLE, 2),
    fact(("prime", 7), "row", ("prime", 7), 7),
    fact(("prime", 7), "row", RANGE, 1),
    fact(("prime", 3), "row", ("not", MANY_TABLE), 3),
]

ENTRIES = [entry for entry, due in NEEDS] + HOPELESS

# Three facts in a ring: each needs the one ahead, the first one the last.
WIDER = tuple(("all", 8, high, COMPOSITE) for high in (8, 9, 10))
RING_OF_THREE = (
    fact(WIDER[0], "narrow", 8, 9),
    fact(WIDER[1], "narrow", 8, 10),
    fact(WIDER[2], "spread", 8),
)
REST_OF_RING = fact(("all", 9, 10, COMPOSITE), "judged", ("each", (("divisor", 3), ("divisor", 2))))
RING_OF_TWO = (fact(("all", 24, 25, COMPOSITE), "narrow", 24, 26), fact(("all", 24, 26, COMPOSITE), "spread", 25))
REST_OF_TWO = judged(("all", 26, 26, COMPOSITE))
RING_OF_ONE = fact(RANGE, "narrow", 8, 10)

# Twenty facts, each of which but the first needs the one ahead of it.
CHAIN = (judged(("all", 0, 39, ("divides", 1, "n"))),) + tuple(
    fact(("all", k, 39, ("divides", 1, "n")), "narrow", k - 1, 39) for k in range(1, 20))
