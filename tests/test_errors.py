"""Point 7: the error classes, how they stand, and their fields."""

import unittest

from spareplank import errors
from spareplank.errors import (Gone, NoBack, NoBlock, NoCode, NoField, NoLine, NoPlace, NoPower, NoShape, PlankError,
                               Standing, WrongPlank)

FIELDS = {
    NoField: ("rule", "after"),
    NoBack: (),
    NoCode: (),
    NoShape: (),
    NoPlace: ("place",),
    NoBlock: ("block",),
    Gone: ("stripe", "plank"),
    Standing: ("stripe",),
    NoPower: (),
    WrongPlank: ("plank",),
    NoLine: (),
}


def made(kind):
    """An error of this class and the values it was made with."""
    values = [10 ** 29 + place for place in range(len(FIELDS[kind]))]
    return (kind(*values) if values else kind("some words")), values


class ErrorsTest(unittest.TestCase):

    def test_eleven_refusals(self):
        self.assertEqual(len(FIELDS), 11)
        named = [thing for thing in vars(errors).values() if isinstance(thing, type)]
        self.assertEqual(set(named), set(FIELDS) | {PlankError})

    def test_plank_error_stands_under_value_error(self):
        self.assertTrue(issubclass(PlankError, ValueError))

    def test_each_stands_under_plank_error(self):
        for kind in FIELDS:
            with self.subTest(kind.__name__):
                self.assertTrue(issubclass(kind, PlankError))
                self.assertTrue(issubclass(kind, ValueError))

    def test_none_stands_under_another(self):
        for kind in FIELDS:
            for other in FIELDS:
                with self.subTest(kind=kind.__name__, other=other.__name__):
                    self.assertEqual(issubclass(kind, other), kind is other)

    def test_fields_in_their_order(self):
        for kind, names in FIELDS.items():
            error, values = made(kind)
            with self.subTest(kind.__name__):
                self.assertEqual([getattr(error, name) for name in names], values)

    def test_fields_keep_numbers_below_nought(self):
        self.assertEqual(NoPlace(-3).place, -3)
        self.assertEqual((NoField(-16, 0).rule, NoField(-16, 0).after), (-16, 0))

    def test_two_errors_of_a_class_keep_their_own(self):
        first, second = Gone(1, 2), Gone(3, 4)
        self.assertEqual((first.stripe, first.plank, second.stripe, second.plank), (1, 2, 3, 4))

    def test_raised_and_taken(self):
        for kind in FIELDS:
            error, _ = made(kind)
            for above in (kind, PlankError, ValueError):
                with self.subTest(kind=kind.__name__, above=above.__name__):
                    with self.assertRaises(above) as caught:
                        raise error
                    self.assertIs(caught.exception, error)

    def test_any_refusal_is_made_with_a_text(self):
        with self.assertRaises(ValueError):
            raise PlankError("some words")


if __name__ == "__main__":
    unittest.main()
