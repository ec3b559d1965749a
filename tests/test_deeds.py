"""Deeds of a house: done together or not at all, undone, counted (20, 3)."""

import random
import unittest

from surenumbers.errors import Busy, Full, NoBack, NoDeed, NoEntry, NotThere, NoText, NumberError, TooGreat, TooLong
from surenumbers.errors import NoCall, NoLine, NoParcel, NoRow, NotHeld, Undone
from surenumbers.houses import House
from surenumbers.kinds import MANY
from surenumbers.things import size_of
from tests.entries import CHAIN, HOPELESS, judged, same
from tests.helpers import ANYTHING
from tests.test_houses import ALL, EIGHT, PARTS, POOL, RANGE, SEVEN, WORKED, Counted, full_house

NO_DEEDS = (
    (), ("put",), ("put", SEVEN, 0), ("puts", SEVEN), ("take",), ["put", SEVEN], (["put"], SEVEN), ("", SEVEN),
    (SEVEN, "put"), (True, SEVEN), (None, None), SEVEN, 5, None, "put", "ab", {"put": SEVEN}, {},
)
NUMBER_ERRORS = (
    NumberError("x"), NoText("x"), TooLong(5), TooGreat(5), NoEntry(5), NoDeed(5), Full(5), Undone(5), NoLine(5),
    Busy("x"), NoParcel("x"), NoRow("x"),
)
KEY_ERRORS = (KeyError("x"), NotThere(5), NotHeld(5), NoCall("a"))
OTHER_ERRORS = (
    ValueError("x"), IndexError("x"), NoBack(5), LookupError("x"), TypeError("x"), RuntimeError("x"),
    ZeroDivisionError("x"), Exception("x"), StopIteration("x"), KeyboardInterrupt("x"), SystemExit(0), AssertionError(),
)


class Raiser:
    """A look that raises an error at the call of this number, from 0 on."""

    def __init__(self, at, error):
        self.at = at
        self.error = error
        self.many = 0

    def __call__(self, house):
        self.many += 1
        if self.many - 1 == self.at:
            raise self.error


class TestTogether(Counted):
    def test_all_done(self):
        house = House((SEVEN,))
        self.assertEqual(house.together((("put", EIGHT), ("take", SEVEN), ("put", EIGHT), ("put", SEVEN))),
                (True, None, False, True))
        self.assert_house(house, (EIGHT, SEVEN))
        self.assertEqual((house.looks(), house.log()), (3, (1, 1)))
        self.assertEqual(house.together(()), ())
        self.assertEqual(house.together(deeds=(("put", WORKED),), look=None), (True,))
        self.assertEqual((house.looks(), house.log()), (4, (3, 3)))
        self.assertRaises(TypeError, house.together, (), None)

    def test_kinds(self):
        told = House().together((("put", SEVEN), ("put", SEVEN), ("take", SEVEN)))
        self.assertEqual(repr(told), "(True, False, None)")

    def test_no_deed(self):
        house = House((SEVEN,))
        for thing in NO_DEEDS:
            for at in (0, 1, 4):
                deeds = (("put", EIGHT), ("take", 5), ("put", None), ("take", SEVEN))[:at] + (thing, 5)
                self.assertEqual(self.refused(NoDeed, house.together, deeds).place, at)
        for thing in (*ANYTHING, [], [("put", EIGHT)], {}, None, True, "put"):
            if type(thing) is not tuple:
                self.assertEqual(self.refused(NoDeed, house.together, thing).place, -1)
            elif thing:
                self.assertEqual(self.refused(NoDeed, house.together, thing).place, 0)
        self.assert_house(house, (SEVEN,))
        self.assertEqual(house.looks(), 1)

    def test_refused_at_each_place(self):
        good = (("put", EIGHT), ("take", SEVEN), ("put", WORKED), ("put", EIGHT), ("take", WORKED))
        wrong = (
            (("put", 5), NoEntry, "entry", 5), (("put", None), NoEntry, "entry", None),
            (("put", ["a"]), NoEntry, "entry", ["a"]), (("take", same(1)), NotThere, "entry", same(1)),
            (("take", True), NotThere, "entry", True), (("put", CHAIN[0]), TooLong, "size", size_of(CHAIN[0])),
        )
        for bad, kind, field, worth in wrong:
            for at in range(len(good) + 1):
                house = House((SEVEN, same(3)), most=60)
                error = self.refused(Undone, house.together, good[:at] + (bad,) + good[at:])
                self.assertEqual(error.place, at)
                self.assertIs(type(error.__cause__), kind)
                self.assertEqual(getattr(error.__cause__, field), worth)
                self.assert_house(house, (SEVEN, same(3)))
                self.assert_false(house.busy())
                new = sum(deed in (("put", EIGHT), ("put", WORKED)) for deed in good[:min(at, 3)])
                self.assertEqual((house.looks(), house.log()), (2 + new, (1, 1)))
                self.refused(NoBack, house.back, 3)
                house.back(2)
                self.assert_house(house, (SEVEN, same(3)))

    def test_full(self):
        house = full_house()
        before = house.entries()
        error = self.refused(Undone, house.together, (("take", same(0)), ("put", SEVEN), ("put", EIGHT)))
        self.assertEqual((error.place, type(error.__cause__), error.__cause__.many), (2, Full, MANY))
        self.assert_house(house, before)
        self.assertEqual(house.together((("take", same(0)), ("put", SEVEN), ("put", SEVEN))), (None, True, False))

    def test_the_order_of_entries_comes_back(self):
        house = House((*PARTS, ALL))
        self.refused(Undone, house.together, (("take", PARTS[0]), ("put", PARTS[0]), ("take", ALL), ("take", ALL)))
        self.assert_house(house, (*PARTS, ALL))


class TestLook(Counted):
    def test_called_behind_each(self):
        house = House((SEVEN,))
        seen = []

        def look(told):
            self.assertIs(told, house)
            seen.append((told.entries(), told.busy(), told.looks(), told.log(), told.holds(RANGE), len(told),
                    str(told).count("\n"), told.said(SEVEN[1]), told.has(EIGHT), told == House(told.entries())))

        house.together((("put", PARTS[0]), ("put", ALL), ("take", SEVEN), ("put", PARTS[1]), ("put", ALL),
                ("put", PARTS[2])), look=look)
        seven = (SEVEN[2],)
        self.assertEqual(seen, [
            ((SEVEN, PARTS[0]), True, 2, (1, 0), False, 2, 1, seven, True, True),
            ((SEVEN, PARTS[0], ALL), True, 3, (1, 0), False, 3, 2, seven, True, True),
            ((PARTS[0], ALL), True, 3, (1, 0), False, 2, 1, (), True, True),
            ((PARTS[0], ALL, PARTS[1]), True, 4, (1, 0), False, 3, 2, (), True, True),
            ((PARTS[0], ALL, PARTS[1]), True, 4, (1, 0), False, 3, 2, (), True, True),
            ((PARTS[0], ALL, *PARTS[1:]), True, 5, (1, 0), True, 4, 3, (), True, True),
        ])
        self.assert_false(house.busy())
        self.assertEqual(house.log(), (1, 1))

    def test_not_called(self):
        house = House()
        raiser = Raiser(0, RuntimeError("x"))
        self.assertEqual(house.together((), look=raiser), ())
        self.refused(NoDeed, house.together, (("put", SEVEN), 5), look=raiser)
        self.refused(NoDeed, house.together, 5, look=raiser)
        error = self.refused(Undone, house.together, (("put", 5), ("put", SEVEN)), look=raiser)
        self.assertIs(type(error.__cause__), NoEntry)
        self.assertEqual(raiser.many, 0)

    def test_what_a_look_tells_is_no_matter(self):
        for told in (None, False, True, 5, "x", (), []):
            self.assertEqual(House().together((("put", SEVEN),), look=lambda house: told), (True,))

    def test_raises_what_undoes(self):
        deeds = (("put", EIGHT), ("take", SEVEN), ("put", SEVEN))
        for error in NUMBER_ERRORS + KEY_ERRORS:
            for at in range(3):
                house = House((SEVEN,))
                raiser = Raiser(at, error)
                undone = self.refused(Undone, house.together, deeds, look=raiser)
                self.assertEqual((undone.place, raiser.many), (at, at + 1))
                self.assertIs(undone.__cause__, error)
                self.assert_house(house, (SEVEN,))
                self.assert_false(house.busy())
                self.assertEqual((house.looks(), house.log()), ((2, 2, 3)[at], (1, 1)))
                self.refused(NoBack, house.back, 2)

    def test_raises_what_comes_out(self):
        deeds = (("put", EIGHT), ("take", SEVEN), ("put", SEVEN))
        for error in OTHER_ERRORS:
            for at in range(3):
                house = House((SEVEN,))
                with self.assertRaises(type(error)) as caught:
                    house.together(deeds, look=Raiser(at, error))
                self.assertIs(caught.exception, error)
                self.assert_house(house, (SEVEN,))
                self.assert_false(house.busy())
                self.assertEqual((house.looks(), house.log()), ((2, 2, 3)[at], (1, 1)))
                self.assertTrue(house.put(EIGHT))

    def test_busy_is_taken(self):
        house = House((SEVEN,))
        calls = (
            lambda: house.put(EIGHT), lambda: house.put(SEVEN), lambda: house.put(5), lambda: house.take(SEVEN),
            lambda: house.take(5), lambda: house.together(()), lambda: house.together(5), lambda: house.back(0),
            lambda: house.back(-1), lambda: house.together((("put", EIGHT),), look=look),
        )

        def look(told):
            for many, call in enumerate(calls):
                begun, left = told.log()
                self.refused(Busy, call)
                self.assertEqual(told.log(), (begun + 1, left + 1))
                self.assert_true(told.busy())

        self.assertEqual(house.together((("put", WORKED), ("take", SEVEN)), look=look), (True, None))
        self.assert_house(house, (WORKED,))
        self.assertEqual((house.looks(), house.log()), (2, (21, 21)))
        house.back(1)
        self.assert_house(house, (SEVEN,))

    def test_busy_is_not_taken(self):
        for call in (lambda house: house.put(EIGHT), lambda house: house.take(SEVEN), lambda house: house.back(0),
                lambda house: house.together(())):
            house = House((SEVEN,))
            undone = self.refused(Undone, house.together, (("put", WORKED), ("put", EIGHT)), look=call)
            self.assertEqual((undone.place, type(undone.__cause__)), (0, Busy))
            self.assert_house(house, (SEVEN,))
            self.assertEqual(house.log(), (2, 2))

    def test_other_houses_are_free(self):
        house, other = House(), House()
        self.assertEqual(house.together((("put", SEVEN), ("put", EIGHT)), look=lambda told: other.put(WORKED)),
                (True, True))
        self.assert_house(other, (WORKED,))
        self.assertEqual((house.log(), other.log()), ((1, 1), (2, 2)))
        # What another house did stays, whatever becomes of this one.
        self.refused(Undone, house.together, (("take", SEVEN),), look=lambda told: other.take(SEVEN))
        self.assert_house(house, (SEVEN, EIGHT))
        self.assert_house(other, (WORKED,))


class TestBack(Counted):
    def test_each_count(self):
        deeds = (("put", SEVEN), ("put", EIGHT), ("take", SEVEN), ("put", WORKED), ("put", SEVEN), ("take", EIGHT))
        states = ((), (SEVEN,), (SEVEN, EIGHT), (EIGHT,), (EIGHT, WORKED), (EIGHT, WORKED, SEVEN), (WORKED, SEVEN))
        for many in range(7):
            for is_together in (False, True):
                house = House()
                if is_together:
                    house.together(deeds)
                else:
                    for word, entry in deeds:
                        house.put(entry) if word == "put" else house.take(entry)
                self.refused(NoBack, house.back, 7)
                self.assertIsNone(house.back(many=many))
                self.assert_house(house, states[many])
                self.assertEqual(house.looks(), 4)
                # Those behind are no more.
                self.assertEqual(self.refused(NoBack, house.back, many + 1).many, many + 1)
                house.put(same(4))
                self.assert_house(house, states[many] + (same(4),))
                house.back(many)
                self.assert_house(house, states[many])
                for fewer in range(many, -1, -1):
                    house.back(fewer)
                    self.assert_house(house, states[fewer])

    def test_no_back(self):
        house = House((SEVEN, EIGHT))
        for thing in (3, -1, 10 ** 39, True, False, None, "1", "", [], [1], (1,), (), {}):
            self.assertEqual(repr(self.refused(NoBack, house.back, thing).many), repr(thing))
        self.assert_house(house, (SEVEN, EIGHT))
        self.assertEqual(house.log(), (13, 13))

    def test_only_deeds_count(self):
        house = House((SEVEN, SEVEN))
        house.put(SEVEN)
        house.together((("put", SEVEN), ("put", EIGHT), ("put", EIGHT)))
        self.refused(Undone, house.together, (("put", WORKED), ("put", 5)))
        self.refused(NotThere, house.take, WORKED)
        self.refused(NoBack, house.back, 3)
        house.back(2)
        self.assert_house(house, (SEVEN, EIGHT))
        house.back(1)
        self.assert_house(house, (SEVEN,))

    def test_full_and_empty_again(self):
        house = full_house()
        house.back(0)
        self.assert_house(house, ())
        for k in range(MANY):
            self.assert_true(house.put(same(k)))
        self.assertEqual((house.looks(), house.log()), (2 * MANY, (MANY + 1, MANY + 1)))


class Model:
    """A house as the document tells of it, kept another way: by all deeds that were ever done and are still."""

    def __init__(self):
        self.deeds = []
        self.looks = self.calls = 0

    def entries(self, many=None):
        entries = []
        for word, entry in self.deeds[:many]:
            if word == "put":
                entries.append(entry)
            else:
                entries.remove(entry)
        return entries

    def do(self, word, entry):
        """What a deed tells, or the class of its refusal."""
        entries = self.entries()
        if word == "take":
            if entry not in entries:
                return NotThere
        elif entry in entries:
            return False
        elif len(entries) == MANY:
            return Full
        else:
            self.looks += 1
        self.deeds.append((word, entry))
        return True if word == "put" else None


class TestWalks(Counted):
    def step(self, house, model, chosen, pool):
        """One call, of the house and of the model."""
        model.calls += 1
        kind = chosen.randrange(10)
        if kind < 6:
            word, entry = ("put" if kind < 4 else "take"), chosen.choice(pool)
            due = model.do(word, entry)
            call = house.put if word == "put" else house.take
            if isinstance(due, type):
                self.refused(due, call, entry)
            else:
                self.assertIs(call(entry), due)
        elif kind < 7:
            many = chosen.randrange(len(model.deeds) + 3) - 1
            if 0 <= many <= len(model.deeds):
                house.back(many)
                del model.deeds[many:]
            else:
                self.assertEqual(self.refused(NoBack, house.back, many).many, many)
        else:
            self.several(house, model, chosen, pool)

    def several(self, house, model, chosen, pool):
        deeds = tuple((chosen.choice(("put", "put", "take")), chosen.choice(pool)) for _ in range(chosen.randrange(5)))
        failing = chosen.randrange(8)
        kept = list(model.deeds)
        told = []
        for place, (word, entry) in enumerate(deeds):
            due = model.do(word, entry)
            told.append(due)
            if isinstance(due, type) or place == failing:
                model.deeds = kept
                undone = self.refused(Undone, house.together, deeds, look=Raiser(failing, NoRow("x")))
                self.assertEqual(undone.place, place)
                self.assertIs(type(undone.__cause__), due if isinstance(due, type) else NoRow)
                return
        self.assertEqual(house.together(deeds, look=Raiser(failing, NoRow("x"))), tuple(told))

    def test_walks(self):
        for seed in range(12):
            chosen = random.Random(seed)
            pool = chosen.sample(POOL, 26 if seed % 2 else 9)
            house, model = House(), Model()
            for _ in range(90):
                self.step(house, model, chosen, pool)
                self.assertEqual(house.entries(), tuple(model.entries()))
                self.assertEqual((house.looks(), house.log()), (model.looks, (model.calls, model.calls)))
            self.assert_house(house, model.entries())
            for many in range(len(model.deeds), -1, -1):
                house.back(many)
                self.assertEqual(house.entries(), tuple(model.entries(many)))

    def test_five_hundred_deeds(self):
        house = House()
        for k in range(250):
            house.together((("put", same(k % 7)), ("take", same(k % 7))))
        self.assertEqual((house.looks(), house.log(), len(house)), (250, (250, 250), 0))
        house.back(499)
        self.assert_house(house, (same(249 % 7),))
        house.back(0)


class TestLooks(Counted):
    def test_each_entry_is_looked_at_once(self):
        from surenumbers import papers
        asked = []
        before = papers.needs

        def counted(entry):
            asked.append(entry)
            return before(entry)

        papers.needs = counted
        try:
            house = House((SEVEN, EIGHT, SEVEN))
            house.put(EIGHT)
            house.put(HOPELESS[0])
            house.together((("put", WORKED), ("take", WORKED)))
            self.refused(Undone, house.together, (("put", ALL), ("put", 5)))
            for _ in range(3):
                house.facts(), house.claims(), house.holds(RANGE), house.said(RANGE), house.entries(), str(house)
            house.back(4)
            house.back(2)
        finally:
            papers.needs = before
        self.assertEqual(asked, [SEVEN, EIGHT, HOPELESS[0], WORKED, ALL])
        self.assertEqual(house.looks(), 5)

    def test_looked_at_anew_when_it_comes_again(self):
        house = House((SEVEN,))
        house.take(SEVEN)
        house.put(SEVEN)
        self.assertEqual(house.looks(), 2)
        house.back(1)
        self.assertEqual(house.looks(), 2)
        house.back(0)
        house.put(SEVEN)
        self.assertEqual(house.looks(), 3)

    def test_refused_ones_are_not_looked_at(self):
        house = full_house()
        self.refused(Full, house.put, SEVEN)
        self.refused(NoEntry, house.put, 5)
        self.refused(TooLong, house.put, ("claim", ((), (), (0, 0)), (1,) * 5000))
        self.refused(NotThere, house.take, judged(("prime", 2)))
        self.assertEqual((house.looks(), house.log()), (MANY, (4, 4)))


if __name__ == "__main__":
    unittest.main()
