"""Promises 10 and 12: the exceptions and their fields."""

import inspect
import unittest

from winoften import errors

WITH_FIELD = {
    "value": [
        "InvalidNumber", "InvalidText", "InvalidName", "InvalidHouse", "InvalidChance", "InvalidDay", "InvalidDays",
        "InvalidLot", "InvalidCount", "InvalidWish", "InvalidRule", "InvalidOrder", "InvalidFlow", "InvalidWorths",
        "InvalidBounds", "InvalidGroups", "InvalidLog", "InvalidLine", "InvalidDeal", "InvalidQuotas",
        "InvalidThings", "Duplicate",
    ],
    "name": ["UnknownName"],
    "pair": ["UnknownPair"],
    "lot": ["Impossible"],
    "count": ["TooMany"],
}
WITHOUT_FIELD = ["NotIndependent", "ByZero", "NoHouse", "NothingToUndo", "NothingToRedo"]
ALL = [name for names in WITH_FIELD.values() for name in names] + WITHOUT_FIELD


class Errors(unittest.TestCase):
    def test_base_is_a_value_error(self):
        self.assertEqual(errors.WinError.__bases__, (ValueError,))

    def test_each_stands_directly_under_the_base(self):
        for name in ALL:
            with self.subTest(name):
                self.assertEqual(getattr(errors, name).__bases__, (errors.WinError,))

    def test_the_file_defines_just_these(self):
        defined = {name for name, value in vars(errors).items() if inspect.isclass(value)}
        self.assertEqual(defined, {"WinError", *ALL})

    def test_field_keeps_the_very_value(self):
        for field, names in WITH_FIELD.items():
            for name in names:
                for value in (["a", []], {"a": [1]}, ("a", "b"), None, 7, "text", {1, 2}, object()):
                    with self.subTest(name=name, value=value):
                        made = getattr(errors, name)
                        self.assertIs(getattr(made(value), field), value)
                        self.assertIs(getattr(made(**{field: value}), field), value)

    def test_field_is_asked_for(self):
        for names in WITH_FIELD.values():
            for name in names:
                with self.subTest(name), self.assertRaises(TypeError):
                    getattr(errors, name)()

    def test_those_without_a_field(self):
        for name in WITHOUT_FIELD:
            with self.subTest(name), self.assertRaises(errors.WinError) as caught:
                raise getattr(errors, name)()
            self.assertEqual(vars(caught.exception), {})

    def test_others_can_be_raised_and_caught(self):
        for names in WITH_FIELD.values():
            for name in names:
                with self.subTest(name), self.assertRaises(ValueError):
                    raise getattr(errors, name)("x")


if __name__ == "__main__":
    unittest.main()
