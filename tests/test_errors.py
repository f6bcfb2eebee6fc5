"""The interface under moonseat/errors.py."""

import unittest

from moonseat import errors

PLAIN = (
    "BadRules", "NoKind", "TooLong", "NoNumber", "NoSheet", "NotFull", "BadCosts", "NotFree", "Unlike",
    "BadBeat", "BadName", "Known", "NoName", "Many", "Whole", "SamePoet", "Stuck", "Turned", "NoPlace",
    "NothingLeft",
)
FIELDS = {"Broken": ("place", "word"), "Stranded": ("name",), "BadRow": ("at",)}
VALUES = {"place": 3, "word": "short", "name": "moon", "at": 7}


class ErrorsTest(unittest.TestCase):
    def test_any_refusal_stands_straight_under_value_error(self):
        self.assertEqual(errors.VerseError.__bases__, (ValueError,))

    def test_each_other_stands_straight_under_verse_error(self):
        for name in PLAIN + tuple(FIELDS):
            with self.subTest(name):
                made = getattr(errors, name)
                self.assertEqual(made.__bases__, (errors.VerseError,))
                self.assertEqual(made.__name__, name)

    def test_the_plain_ones_are_raised_with_and_without_words(self):
        for name in PLAIN:
            with self.subTest(name):
                made = getattr(errors, name)
                for given in ((), ("words",)):
                    with self.assertRaises(errors.VerseError) as caught:
                        raise made(*given)
                    self.assertIs(type(caught.exception), made)

    def test_fields_by_place_and_by_name(self):
        for name, fields in FIELDS.items():
            made = getattr(errors, name)
            values = {field: VALUES[field] for field in fields}
            for error in (made(*values.values()), made(**values)):
                with self.subTest(name):
                    self.assertEqual({field: getattr(error, field) for field in fields}, values)
                    self.assertIsInstance(error, ValueError)

    def test_two_errors_keep_their_own_fields(self):
        one, two = errors.Broken(1, "barred"), errors.Broken(2, "cut")
        self.assertEqual((one.place, one.word, two.place, two.word), (1, "barred", 2, "cut"))
