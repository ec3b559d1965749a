"""What is promised over the whole program (2, 3), and the interface."""

import copy
import importlib
import inspect
import random
import unittest

from surenumbers.chains import is_chain
from surenumbers.claims import is_claim, working_holds
from surenumbers.desk import Desk
from surenumbers.errors import Full, NoBack, NoCall, NoEntry, NoLine, NoParcel, NoRow, NoText, NotHeld, NotThere
from surenumbers.errors import NoDeed, TooLong, Undone
from surenumbers.findings import finding_holds
from surenumbers.grounds import is_entry, needs
from surenumbers.houses import House
from surenumbers.housetexts import read_house, show_house
from surenumbers.judging import no_holds, yes_holds
from surenumbers.kinds import LIMIT, MANY, MOST, WORDS
from surenumbers.making import made
from surenumbers.parcels import fetched, led
from surenumbers.polys import is_open
from surenumbers.samples import forged, missed, sample_holds
from surenumbers.statements import is_statement
from surenumbers.tables import table_of
from surenumbers.terms import is_term
from surenumbers.things import is_label, is_thing, read_thing, show_thing, size_of
from surenumbers.twohouses import both, differing
from surenumbers.whys import lot_holds, why, why_holds
from tests.entries import CHAIN, ENTRIES, RANGE, TURNED, WORKINGS, fact, judged, same
from tests.examples import EXAMPLES, INNERS, ranges
from tests.helpers import ANYTHING, Kept, deep
from tests.test_houses import ALL, PARTS, POOL, SEVEN, WORKED

# Each function with its arguments, those by name alone behind a `*`.
INTERFACE = {
    "things": "is_label(thing) is_thing(thing) size_of(thing) show_thing(thing) read_thing(text) rising(things)",
    "terms": "is_term(thing) worth_of(term)",
    "statements": "is_statement(thing) put_in(thing,number) looked_at(statement)",
    "walks": "walk_shows(statement,thing) walk_denies(statement,thing) walk_made(statement)",
    "dividing": "dividing_shows(statement,thing) dividing_denies(statement,thing) dividing_made(statement)",
    "primes": "prime_shows(statement,thing) prime_denies(statement,thing) prime_made(statement)",
    "rests": "rest_shows(statement,thing) rest_denies(statement,thing) rest_made(statement)",
    "orders": "order_shows(statement,thing) order_denies(statement,thing) order_made(statement)",
    "symbols": "symbol_shows(statement,thing) symbol_denies(statement,thing) symbol_made(statement)",
    "squares": "squares_show(statement,thing) squares_deny(statement,thing) squares_made(statement)",
    "pells": "pell_shows(statement,thing) pell_denies(statement,thing) pell_made(statement)",
    "chains": "is_chain(thing) chain_of(primes) factors_of(number)",
    "tables": "row_of(word,number) table_of(word,size) sum_of(rows,power) due_sum(word,size,power)",
    "samples": "sample_holds(word,size,places,sums,thing) missed(size,places,sums) forged(word,size,places,sums)",
    "tablechecks": "table_shows(statement,thing) table_denies(statement,thing) table_made(statement)",
    "judging": "yes_holds(statement,thing,*,most) no_holds(statement,thing,*,most)",
    "making": "made(statement,*,limit)",
    "polys": "is_open(thing,letters) poly_of(term,letters)",
    "claims": "is_claim(thing) working_holds(claim,thing) put_claim(claim,worths)",
    "grounds": "is_entry(thing) needs(entry)",
    "houses": "House(entries,*,most)",
    "whys": "why(house,what) why_holds(house,what,thing) lot_holds(house,what,thing)",
    "parcels": "led(house,what) fetched(house,parcel)",
    "housetexts": "show_house(house) read_house(text,*,most)",
    "twohouses": "differing(one,other) both(one,other,*,most)",
    "desk": "Desk()",
    "findings": "finding_holds(thing)",
}
METHODS = {
    "houses.House": "put(entry) take(entry) holds(what) has(entry) said(what) entries(*,by) facts() claims() busy() "
        "together(deeds,*,look) back(many) looks() log() __len__() __eq__(other) __str__()",
    "desk.Desk": "say(row)",
}
DEFAULTS = {"most": MOST, "limit": LIMIT, "by": None, "look": None, "entries": ()}

HOUSE = (SEVEN, ALL, *PARTS, WORKED, same(0), same(1))

# Functions that take anything, with the other arguments right.
OF_ANYTHING = {
    "is_label": is_label, "is_thing": is_thing, "size_of": size_of, "is_term": is_term, "is_chain": is_chain,
    "is_statement": is_statement, "is_claim": is_claim, "is_entry": is_entry, "finding_holds": finding_holds,
    "is_open": lambda thing: is_open(thing, ("a", "n")),
    "yes_holds": lambda thing: yes_holds(("prime", 7), thing, most=10 ** 9),
    "no_holds": lambda thing: no_holds(("prime", 9), thing, most=10 ** 9),
    "working_holds": lambda thing: working_holds(TURNED, thing),
    "sample_holds": lambda thing: sample_holds("many", 2, (1,), 1, thing),
    "has": lambda thing: House(HOUSE).has(thing),
    "holds": lambda thing: House(HOUSE).holds(thing),
    "said": lambda thing: House(HOUSE).said(thing),
    "why_holds": lambda thing: why_holds(House(HOUSE), RANGE, thing),
    "lot_holds": lambda thing: lot_holds(House(HOUSE), ("prime", 9), thing),
}
# Functions that refuse anything that isn't right, with the refusals that may come.
REFUSING = {
    "read_thing": (read_thing, NoText), "put": (lambda thing: House().put(thing), NoEntry),
    "take": (lambda thing: House(HOUSE).take(thing), NotThere),
    "back": (lambda thing: House(HOUSE).back(thing), NoBack),
    "together": (lambda thing: House(HOUSE).together(thing), NoDeed),
    "led": (lambda thing: led(House(HOUSE), thing), NotHeld),
    "fetched": (lambda thing: fetched(House(HOUSE), thing), NoParcel), "read_house": (read_house, NoLine),
    "say": (lambda thing: Desk().say(thing), NoRow),
}


def arguments_of(function):
    """The arguments of a function as the interface writes them, defaults left out, and these defaults."""
    told, defaults = [], {}
    for name, parameter in inspect.signature(function).parameters.items():
        if parameter.kind is parameter.KEYWORD_ONLY and "*" not in told:
            told.append("*")
        if name != "self":
            told.append(name)
        if parameter.default is not parameter.empty:
            defaults[name] = parameter.default
    return ",".join(told), defaults


class TestInterface(unittest.TestCase):
    def assert_function(self, function, written):
        name, arguments = written[:-1].split("(")
        told, defaults = arguments_of(function)
        self.assertEqual((name, told), (name, arguments))
        self.assertEqual(defaults, {word: DEFAULTS[word] for word in arguments.split(",") if word in DEFAULTS})

    def test_functions(self):
        for module, functions in INTERFACE.items():
            for written in functions.split():
                place = importlib.import_module("surenumbers." + module)
                self.assert_function(getattr(place, written.split("(")[0]), written)

    def test_methods_stand_in_their_class(self):
        for name, methods in METHODS.items():
            module, kind = name.split(".")
            kind = getattr(importlib.import_module("surenumbers." + module), kind)
            for written in methods.split():
                self.assertIn(written.split("(")[0], vars(kind))
                self.assert_function(vars(kind)[written.split("(")[0]], written)

    def test_kinds(self):
        self.assertEqual((LIMIT, MOST, MANY, WORDS), (10000, 4000, 20, ("many", "total", "least")))


class TestOfAnything(Kept):
    def test_told_and_kept(self):
        things = ANYTHING + (deep(1, 25), deep((), 25), tuple(range(10000)), list(range(10000)), "(" * 25,
                "(" * 25 + ")" * 25, "1" * 1000, "a" * 6000, "\n" * 6000, " " * 6000, "() " * 2000,
                {"a": list(range(100))}, deep([1], 24))
        for name, function in OF_ANYTHING.items():
            for thing in things:
                with self.subTest(name):
                    self.assert_kept(function, thing)
                    if name not in ("size_of", "said"):
                        self.assertIn(function(thing), (True, False))
        for name, (function, kind) in REFUSING.items():
            for thing in things:
                before = copy.deepcopy(thing)
                try:
                    function(thing)
                except kind:
                    pass
                self.assertEqual(repr(before), repr(thing))

    def test_truths_are_no_numbers(self):
        """With a truth in the place of a 0 or a 1, whatever is right no longer is."""
        one = fact(("not", ("prime", 1)), "row", ("table", "many", (1,)), 1)
        house = (judged(("table", "many", (1,))), one, same(0), same(1), ("claim", TURNED, (0,)))
        right = [
            (is_thing, (1, (0, "a"))), (is_term, ("sum", 1, 0)), (is_statement, ("same", 0, 1)), (is_statement, one[1]),
            (is_statement, ("all", 0, 1, ("prime", "n"))), (is_claim, (("a",), ((1, 0),), ("a", 1))), (is_entry, one),
            (lambda thing: is_open(thing, ("a",)), ("times", ("power", "a", 1), 0)),
            (lambda thing: yes_holds(("divides", 3, 3), thing), ("times", 1)),
            (lambda thing: no_holds(("divides", 2, 3), thing), ("rest", 1, 1)),
            (lambda thing: yes_holds(("all", 1, 1, ("divides", 1, "n")), thing), ("each", (("times", 1),))),
            (lambda thing: sample_holds("many", 2, (1,), 0, thing), (1, 1)),
            (lambda thing: working_holds(TURNED, thing), (1,)), (House(house).has, one), (House(house).holds, one[1]),
            (House(house).holds, ("same", 0, 0)), (lambda thing: why_holds(House(house), one[1], thing), house[:2]),
            (lambda thing: lot_holds(House(house), ("prime", 1), thing), (("prime", 1), ("same", 1, 0))),
            (lambda thing: House(house).said(thing) != (), ("same", 1, 1)),
            (finding_holds, ("missed", 2, (1,), 0, (2,))),
            (finding_holds, ("yes", ("same", 1, 1), ("walk",))), (finding_holds, ("working", TURNED, (0,))),
            (finding_holds, ("sample", "many", 1, (1,), 0, (1,))),
            (finding_holds, ("holds", "\n".join(map(show_thing, house)), one[1], house[:2])),
            (finding_holds, ("fails", "", ("same", 1, 1), (("same", 1, 1),))), (is_chain, ((3, 2, ((2, 1),)),)),
        ]
        for function, thing in right:
            self.assert_true(function(thing))
            for other in with_truths(thing):
                self.assertEqual(other, thing)
                self.assert_false(function(other))

    def test_truths_are_refused(self):
        one = same(1)
        for other in with_truths(one):
            house = House((one,))
            self.assertRaises(NoEntry, house.put, other)
            self.assertRaises(NotThere, house.take, other)
            self.assertRaises(NoParcel, fetched, house, (other,))
            with self.assertRaises(Undone) as caught:
                house.together((("take", one), ("put", other)))
            self.assertIs(type(caught.exception.__cause__), NoEntry)
        for other in with_truths(one[1]):
            self.assertRaises(NotHeld, led, House((one,)), other)
        for truth in (True, False):
            self.assertRaises(NoBack, House((one,)).back, truth)


def with_truths(thing):
    """The thing with a truth for each 0 or 1 in it, one at a time."""
    if type(thing) is tuple:
        for at, part in enumerate(thing):
            for other in with_truths(part):
                yield thing[:at] + (other,) + thing[at + 1:]
    elif type(thing) is int and thing in (0, 1):
        yield bool(thing)


class TestPromise(Kept):
    def test_one_side_for_each_statement(self):
        for statement, is_so in EXAMPLES + list(ranges())[::3]:
            side, thing = made(statement, limit=99999)
            self.assertEqual(side, "yes" if is_so else "no")
            self.assertEqual((yes_holds(statement, thing), no_holds(statement, thing)), (is_so, not is_so))
            self.assertEqual(made(("not", statement), limit=99999), ("no" if is_so else "yes", thing))

    def test_ranges_as_their_numbers(self):
        for inner, is_so, first, last in INNERS:
            told = [is_so(n) for n in range(first, first + 6)]
            self.assertEqual(made(("all", first, first + 5, inner))[0], "yes" if all(told) else "no")
            self.assertEqual(made(("some", first, first + 5, inner))[0], "yes" if any(told) else "no")

    def test_samples(self):
        for word in WORDS:
            for size, places, sums in ((6, (1, 2), 0), (6, (1, 2), 3), (9, (3, 4), 4)):
                sums = 0 if word == "least" else sums
                wrong = forged(word, size, places, sums)
                right = table_of(word, size)
                self.assertEqual(sum(a != b for a, b in zip(wrong, right)), sums + 1)
                self.assert_true(finding_holds(("sample", word, size, places, sums, wrong)))
                self.assert_true(finding_holds(("missed", size, places, sums, missed(size, places, sums))))

    def test_papers_go_down_to_certificates_and_workings(self):
        chosen = random.Random(6)
        for _ in range(25):
            house = House(tuple(chosen.sample(POOL, MANY)))
            for what in house.facts() + house.claims():
                paper = led(house, what)
                known = []
                for word, said, ground in paper:
                    if word == "claim":
                        self.assert_true(working_holds(said, ground))
                    elif ground[0] == "judged":
                        self.assert_true(yes_holds(said, ground[1], most=10 ** 9))
                    self.assertTrue(all(need in known for need in needs((word, said, ground))))
                    known.append(said)
                other = House()
                fetched(other, paper)
                self.assertLessEqual(set(known), set(other.facts() + other.claims()))
                self.assert_true(finding_holds(("holds", show_house(house), what, paper)))

    def test_texts_written_and_read(self):
        for entries in ((), HOUSE, CHAIN):
            house = House(entries)
            text = show_house(house)
            self.assertEqual(show_house(read_house(text)), text)
            self.assertEqual(read_house(text), house)
        for entry in ENTRIES:
            self.assertEqual(read_thing(show_thing(entry)), entry)

    def test_what_was_told_is_handed_in_again(self):
        """However great, and with something in it otherwise."""
        house = House(CHAIN)
        paper = why(house, CHAIN[-1][1])
        great = (paper,) * 40
        self.assertGreater(size_of(great), 10000)
        self.assert_true(is_thing(great))
        self.assertEqual(read_thing(show_thing(great)), great)
        for thing in (paper, great, paper[1], house.entries(), made(RANGE), show_house(house), led(house, CHAIN[3][1])):
            for function in OF_ANYTHING.values():
                function(thing)
                function((thing, True))
                function([thing])
        entry = ("claim", TURNED, great)
        self.assert_true(is_entry(entry))
        self.assertIsNone(needs(entry))
        self.assertRaises(TooLong, House().put, entry)
        wide = House((entry,), most=10 ** 6)
        self.assertEqual(read_house(show_house(wide), most=10 ** 6), wide)
        self.assertEqual(differing(wide, House()), ())
        self.assertEqual(both(wide, House(), most=10 ** 6), wide)
        self.assertRaises(NoLine, read_house, show_house(wide))

    def test_asked_again_the_same(self):
        for _ in range(2):
            house = House(HOUSE)
            told = [(house.facts(), house.claims(), why(house, RANGE), why(house, ("prime", 9)), str(house))
                    for _ in range(2)]
            self.assertEqual(repr(told[0]), repr(told[1]))
            self.assertEqual(repr(why(House(HOUSE), RANGE)), repr(told[0][2]))

    def test_houses_and_desks_share_nothing(self):
        houses = [House(HOUSE), House(HOUSE), read_house(show_house(House(HOUSE))), both(House(HOUSE), House())]
        desks = [Desk(), Desk()]
        houses[0].back(0)
        desks[0].say("call a (prime 7)")
        desks[0].say("make a")
        for house in houses[1:]:
            self.assertEqual((house.entries(), house.log()), (HOUSE, (0, 0)))
        self.assertRaises(NoCall, desks[1].say, "holds a")
        self.assertEqual(desks[1].say("text"), "-")

    def test_refused_houses_change_nothing(self):
        house = House(HOUSE)
        for call in (lambda: house.put(5), lambda: house.take(same(5)), lambda: house.back(99),
                lambda: house.together(5), lambda: house.together((("take", SEVEN), ("take", SEVEN))),
                lambda: fetched(house, (5,)), lambda: led(house, 5),
                lambda: both(house, House(tuple(same(k) for k in range(2, 19)))),
                lambda: fetched(house, tuple(same(k) for k in range(2, 19)))):
            self.assertRaises((ValueError, LookupError), call)
            self.assertEqual(house.entries(), HOUSE)
        self.assertRaises(Full, both, house, House(tuple(same(k) for k in range(2, 19))))

    def test_workings_let_by_are_so_at_all_numbers(self):
        for claim, working in WORKINGS:
            self.assert_true(finding_holds(("working", claim, working)))
            house = House((("claim", claim, working),))
            self.assertEqual(house.claims(), (claim,))


if __name__ == "__main__":
    unittest.main()
