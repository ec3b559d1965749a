"""The refusals: their classes, how they are made, their fields."""

import unittest

from surenumbers import errors

UNDER_NUMBER_ERROR = {
    "NoText": "text",
    "TooLong": "size",
    "TooGreat": "number",
    "NoEntry": "entry",
    "NoDeed": "place",
    "Full": "many",
    "Undone": "place",
    "NoLine": "line",
}
WITH_A_TEXT = ("Busy", "NoParcel", "NoRow")
UNDER_KEY_ERROR = {"NotThere": "entry", "NotHeld": "what", "NoCall": "label"}
UNDER_INDEX_ERROR = {"NoBack": "many"}
WITH_A_FIELD = {**UNDER_NUMBER_ERROR, **UNDER_KEY_ERROR, **UNDER_INDEX_ERROR}

BASES = (errors.NumberError, ValueError, KeyError, IndexError, LookupError)

FIELDS = (
    None, True, False, 0, 5, -1, 10 ** 39, "", "text", "two\nlines", (), (1, "a"), (True, None), [], [1, [2]],
    {}, {"a": (1,)},
)


def taken_by(kind):
    """The names of those bases that take a refusal of this class."""
    return {base.__name__ for base in BASES if issubclass(kind, base)}


class TestClasses(unittest.TestCase):
    def test_number_error(self):
        self.assertEqual(taken_by(errors.NumberError), {"NumberError", "ValueError"})
        with self.assertRaises(ValueError):
            raise errors.NumberError("a text")

    def test_under_number_error(self):
        for name in list(UNDER_NUMBER_ERROR) + list(WITH_A_TEXT):
            with self.subTest(name):
                self.assertEqual(taken_by(getattr(errors, name)), {"NumberError", "ValueError"})

    def test_under_key_error(self):
        for name in UNDER_KEY_ERROR:
            with self.subTest(name):
                self.assertEqual(taken_by(getattr(errors, name)), {"KeyError", "LookupError"})

    def test_under_index_error(self):
        for name in UNDER_INDEX_ERROR:
            with self.subTest(name):
                self.assertEqual(taken_by(getattr(errors, name)), {"IndexError", "LookupError"})

    def test_none_stands_under_another(self):
        kinds = [getattr(errors, name) for name in list(WITH_A_FIELD) + list(WITH_A_TEXT)]
        for one in kinds:
            for other in kinds:
                self.assertEqual(issubclass(one, other), one is other)


class TestFields(unittest.TestCase):
    def test_by_place(self):
        for name, field in WITH_A_FIELD.items():
            for thing in FIELDS:
                with self.subTest(name, thing=thing):
                    self.assertIs(getattr(getattr(errors, name)(thing), field), thing)

    def test_by_name(self):
        for name, field in WITH_A_FIELD.items():
            for thing in FIELDS:
                with self.subTest(name, thing=thing):
                    self.assertIs(getattr(getattr(errors, name)(**{field: thing}), field), thing)

    def test_made_with_one_thing_only(self):
        for name, field in WITH_A_FIELD.items():
            with self.subTest(name):
                kind = getattr(errors, name)
                self.assertRaises(TypeError, kind)
                self.assertRaises(TypeError, kind, 1, 2)
                self.assertRaises(TypeError, kind, **{field + "s": 1})

    def test_what_is_handed_in_stays(self):
        for name, field in WITH_A_FIELD.items():
            thing = [1, {"a": [2]}]
            getattr(errors, name)(thing)
            self.assertEqual(thing, [1, {"a": [2]}])

    def test_made_with_a_text(self):
        for name in WITH_A_TEXT:
            with self.subTest(name):
                self.assertEqual(str(getattr(errors, name)("a text")), "a text")

    def test_raised_and_taken(self):
        for name, field in WITH_A_FIELD.items():
            kind = getattr(errors, name)
            with self.subTest(name):
                with self.assertRaises(kind) as taken:
                    raise kind(("a", 1))
                self.assertEqual(getattr(taken.exception, field), ("a", 1))
                self.assertNotEqual(str(taken.exception), "")


if __name__ == "__main__":
    unittest.main()
