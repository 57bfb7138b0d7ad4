"""The errors: which class stands under which, and which is made with which field."""

import inspect
import unittest

from logdelve import errors

PLAIN_LOG_ERRORS = (
    "BadTerm", "BadNumber", "BadTime", "BadSize", "BadName",
    "Struck", "TooHard", "NothingLeft", "Busy",
)
NOT_THERE_ERRORS = ("NoSource", "NoRow", "NoName", "NoHold", "NoIndex", "NoPiece")
KEPT_ROW = (5, "web", 0, {"took": 3})
# Each class that has a field: the field's name and a thing to hand in.
FIELDS = {
    "BadText": ("at", 7),
    "BadStage": ("at", 2),
    "BadField": ("name", "took"),
    "Taken": ("name", "web"),
    "Unlike": ("row", KEPT_ROW),
    "Held": ("name", "night"),
    "InUse": ("name", "slow"),
    "Ring": ("names", ("slow", "fast", "slow")),
    "Breaks": ("name", "slow"),
}


def error_class(name):
    return getattr(errors, name)


class Bases(unittest.TestCase):
    def test_log_error_stands_straight_under_value_error(self):
        self.assertEqual(errors.LogError.__bases__, (ValueError,))

    def test_not_there_stands_straight_under_lookup_error(self):
        self.assertEqual(errors.NotThere.__bases__, (LookupError,))

    def test_each_refusal_stands_straight_under_log_error(self):
        for name in (*PLAIN_LOG_ERRORS, *FIELDS):
            with self.subTest(name):
                self.assertEqual(error_class(name).__bases__, (errors.LogError,))
                self.assertTrue(issubclass(error_class(name), ValueError))
                self.assertFalse(issubclass(error_class(name), LookupError))

    def test_each_lack_stands_straight_under_not_there(self):
        for name in NOT_THERE_ERRORS:
            with self.subTest(name):
                self.assertEqual(error_class(name).__bases__, (errors.NotThere,))
                self.assertTrue(issubclass(error_class(name), LookupError))
                self.assertFalse(issubclass(error_class(name), ValueError))

    def test_there_are_no_other_classes(self):
        told = {name for name, thing in vars(errors).items() if inspect.isclass(thing)}
        self.assertEqual(told, {"LogError", "NotThere", *PLAIN_LOG_ERRORS, *FIELDS, *NOT_THERE_ERRORS})


class Made(unittest.TestCase):
    def test_with_the_field_by_place(self):
        for name, (field, thing) in FIELDS.items():
            with self.subTest(name):
                self.assertEqual(getattr(error_class(name)(thing), field), thing)

    def test_with_the_field_by_name(self):
        for name, (field, thing) in FIELDS.items():
            with self.subTest(name):
                self.assertEqual(getattr(error_class(name)(**{field: thing}), field), thing)

    def test_with_a_field_of_nought_or_nothing(self):
        self.assertEqual(errors.BadText(0).at, 0)
        self.assertEqual(errors.BadStage(at=0).at, 0)
        self.assertEqual(errors.Taken("").name, "")

    def test_with_the_field_left_out(self):
        for name, (field, thing) in FIELDS.items():
            with self.subTest(name):
                self.assertIn(field, vars(error_class(name)()))

    def test_ring_without_names_has_a_tuple_all_the_same(self):
        self.assertEqual(errors.Ring().names, ())

    def test_with_nothing_where_there_is_no_field(self):
        for name in ("LogError", "NotThere", *PLAIN_LOG_ERRORS, *NOT_THERE_ERRORS):
            with self.subTest(name):
                self.assertEqual(vars(error_class(name)()), {})

    def test_each_has_its_own_field_only(self):
        for name, (field, thing) in FIELDS.items():
            with self.subTest(name):
                self.assertEqual(vars(error_class(name)(thing)), {field: thing})

    def test_each_is_raised_and_caught_by_its_own_name_and_its_base(self):
        for name in (*PLAIN_LOG_ERRORS, *FIELDS):
            with self.subTest(name), self.assertRaises(errors.LogError):
                raise error_class(name)()
        for name in NOT_THERE_ERRORS:
            with self.subTest(name), self.assertRaises(errors.NotThere):
                raise error_class(name)()
