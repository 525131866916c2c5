"""Promises 2 and 13 to 15: ratios, and functions over numbers."""

import random
import unittest
from fractions import Fraction

from tests.checks import Case, any_values, half_house
from winoften.errors import ByZero, InvalidNumber, InvalidText
from winoften.ratios import Ratio, as_ratio, greatest, is_amount, is_number, is_share, least, total

NOT_INTEGERS = [None, True, False, "1", "", [1], (1,), {}, Ratio(1), Ratio(1, 2)]
NOT_NUMBERS = [None, True, False, "1", "1/2", "", [1], (1,), {}, {1: 1}, [Ratio(1)]]
SAMPLES = [(top, bottom) for top in (-7, -2, -1, 0, 1, 3, 12) for bottom in (-9, -4, -1, 1, 2, 6)]


def as_fraction(number):
    return Fraction(number.top, number.bottom) if isinstance(number, Ratio) else Fraction(number)


class Making(Case):
    def test_document_example(self):
        half = Ratio(-3, -6)
        self.assertEqual(
            [half.top, half.bottom, (half - 2).text(), half.over(Ratio(3, 4)).text(), half.below(Ratio(1, 2)),
             total([half, 1]).text()],
            [1, 2, "-3/2", "2/3", False, "3/2"])

    def test_lowest_terms_with_positive_bottom(self):
        for top, bottom in SAMPLES:
            with self.subTest(top=top, bottom=bottom):
                ratio = Ratio(top, bottom)
                expected = Fraction(top, bottom)
                self.assertEqual((ratio.top, ratio.bottom), (expected.numerator, expected.denominator))
                self.assertEqual({type(ratio.top), type(ratio.bottom)}, {int})

    def test_names_and_default(self):
        ratio = Ratio(bottom=4, top=6)
        self.assertEqual((ratio.top, ratio.bottom), (3, 2))
        self.assertEqual((Ratio(5).top, Ratio(5).bottom), (5, 1))

    def test_wrong_parts(self):
        for wrong in NOT_INTEGERS:
            with self.subTest(wrong):
                self.refused(InvalidNumber, wrong, Ratio, wrong)
                self.refused(InvalidNumber, wrong, Ratio, wrong, 0)
                self.refused(InvalidNumber, wrong, Ratio, 1, wrong)
        first, second = ["first"], ["second"]
        self.refused(InvalidNumber, first, Ratio, first, second)

    def test_by_zero(self):
        self.caught(ByZero, Ratio, 1, 0)
        self.caught(ByZero, Ratio, 0, 0)

    def test_never_changes(self):
        ratio = Ratio(1, 2)
        for name in ("top", "bottom"):
            with self.assertRaises(AttributeError):
                setattr(ratio, name, 3)
        ratio + 1, ratio - 1, ratio * 2, -ratio, ratio.over(3)
        self.assertEqual(ratio.text(), "1/2")


class Operators(Case):
    def test_sums_differences_products_quotients(self):
        for top, bottom in SAMPLES:
            left = Ratio(top, bottom)
            for other in [Ratio(*sample) for sample in SAMPLES] + [-2, 0, 1, 5]:
                one, two = as_fraction(left), as_fraction(other)
                with self.subTest(one=one, two=two):
                    for told, expected in [(left + other, one + two), (left - other, one - two),
                                           (left * other, one * two), (-left, -one)]:
                        self.assertIs(type(told), Ratio)
                        self.assertEqual((told.top, told.bottom), (expected.numerator, expected.denominator))
                    self.assertIs(left == other, one == two)
                    self.assertIs(left != other, one != two)
                    self.assertIs(left.below(other), one < two)
                    if two != 0:
                        self.assertEqual(as_fraction(left.over(other)), one / two)

    def test_over_zero(self):
        for zero in (0, Ratio(0), Ratio(0, -3)):
            self.caught(ByZero, Ratio(1, 2).over, zero)
            self.caught(ByZero, Ratio(0).over, zero)

    def test_arguments_by_name(self):
        self.assertEqual(Ratio(1).over(number=2), Ratio(1, 2))
        self.assertIs(Ratio(1).below(number=2), True)

    def test_equality_with_other_values(self):
        self.assertTrue(Ratio(4, 2) == 2 and 2 == Ratio(4, 2))
        self.assertFalse(Ratio(5, 2) == 2 or 2 == Ratio(5, 2))
        for value, ratio in [(True, Ratio(1)), (False, Ratio(0)), ("1", Ratio(1)), (None, Ratio(0)), (1.0, Ratio(1)),
                             (half_house(), Ratio(3)), ((1, 2), Ratio(1, 2)), ([1], Ratio(1))]:
            with self.subTest(value):
                self.assertIs(ratio == value, False)
                self.assertIs(value == ratio, False)
                self.assertIs(ratio != value, True)


    def test_what_is_no_number_is_never_taken_for_one(self):
        half = Ratio(1, 2)
        for wrong in NOT_NUMBERS:
            for call in (lambda: half + wrong, lambda: half - wrong, lambda: half * wrong):
                with self.subTest(wrong), self.assertRaises(TypeError):
                    call()


class Texts(Case):
    def test_text(self):
        for ratio, text in [(Ratio(4), "4"), (Ratio(-4), "-4"), (Ratio(0, -7), "0"), (Ratio(3, -6), "-1/2"),
                            (Ratio(22, 7), "22/7"), (Ratio(10 ** 50, 3), "1" + "0" * 50 + "/3")]:
            self.assertEqual(ratio.text(), text)

    def test_long_text(self):
        self.assertEqual(Ratio(10 ** 3999, 7).text(), "1" + "0" * 3999 + "/7")

    def test_each_text_is_read_back(self):
        for top, bottom in SAMPLES + [(10 ** 40 + 1, 10 ** 40), (-(10 ** 60), 7)]:
            ratio = Ratio(top, bottom)
            told = Ratio.read(ratio.text())
            self.assertIs(type(told), Ratio)
            self.assertEqual((told.top, told.bottom), (ratio.top, ratio.bottom))
        self.assertEqual(Ratio.read(text="1/2"), Ratio(1, 2))

    def test_what_is_no_text(self):
        for text in ["2/4", "+3", "-0", "", " ", "/", "-", "--1", "1/", "/2", "1/1", "3/1", "0/1", "0/2", "-0/3", "1/0",
                     "0/0", "01", "1/02", "00", "1 ", " 1", "1 /2", "1/ 2", "1/-2", "-1/-2", "1/+2", "+1/2", "1//2",
                     "1/2/3", "1.0", "0.5", "1e3", "1_0", "1\n", "\n1", "0x1", "a", "half", "-a", "1/a", "- 1",
                     "\u0663", "\u00b2", "1/\u00b2", "\uff11", "None", "True"]:
            with self.subTest(text):
                self.refused(InvalidText, text, Ratio.read, text)

    def test_other_values(self):
        for value in [None, True, 0, 1, Ratio(1), b"1", ["1"], ("1",), {"1": 1}, half_house()]:
            with self.subTest(value):
                self.refused(InvalidText, value, Ratio.read, value)

    def test_limit_of_length(self):
        self.assertEqual(Ratio.read("9" * 100).text(), "9" * 100)
        self.assertEqual(Ratio.read("1/" + "9" * 98), Ratio(1, 10 ** 98 - 1))
        for text in ["9" * 101, "1/" + "9" * 99, "-" + "9" * 100, "9" * 5000]:
            self.refused(InvalidText, text, Ratio.read, text)


class Numbers(Case):
    def test_kinds_of_numbers(self):
        for value, expected in [(Ratio(-1, 3), (True, False, False)), (-1, (True, False, False)),
                                (0, (True, True, True)), (Ratio(0), (True, True, True)),
                                (Ratio(1, 3), (True, True, True)), (1, (True, True, True)),
                                (Ratio(1), (True, True, True)), (Ratio(4, 3), (True, True, False)),
                                (2, (True, True, False)), (10 ** 60, (True, True, False))]:
            with self.subTest(value):
                self.assertEqual((is_number(value), is_amount(value), is_share(value)), expected)
        for value in NOT_NUMBERS + [half_house()]:
            with self.subTest(value):
                self.assertEqual([is_number(value), is_amount(value), is_share(value)], [False] * 3)

    def test_answers_are_true_or_false(self):
        for value in any_values():
            for ask in (is_number, is_amount, is_share):
                self.assertIn(ask(value=value), (True, False))
                self.assertIs(type(ask(value)), bool)

    def test_as_ratio(self):
        for number in (-3, 0, Ratio(2, 3)):
            told = as_ratio(number=number)
            self.assertIs(type(told), Ratio)
            self.assertEqual(told, number)
        for wrong in NOT_NUMBERS:
            with self.subTest(wrong):
                self.refused(InvalidNumber, wrong, as_ratio, wrong)

    def test_total(self):
        for numbers in ([], (), [3], [1, Ratio(1, 2), -4], (Ratio(1, 6), Ratio(-1, 10), Ratio(1, 15)),
                        [Ratio(1, 3)] * 3):
            told = total(numbers=numbers)
            self.assertIs(type(told), Ratio)
            self.assertEqual(as_fraction(told), sum(map(as_fraction, numbers)))

    def test_least_and_greatest(self):
        for numbers, low, high in [([5], 0, 0), ([2, 1, 3], 1, 2), ([1, 1, 1], 0, 0),
                                   ([Ratio(1, 2), Ratio(1, 3), 0, -1], 3, 0), ((2, -1, Ratio(4, 2), Ratio(-1)), 1, 0), ([0, 3, Ratio(3), 0], 0, 1)]:
            with self.subTest(numbers):
                self.assertEqual((least(numbers), greatest(numbers)), (low, high))
                self.assertEqual((least(numbers=numbers), greatest(numbers=numbers)), (low, high))
                self.assertIs(type(least(numbers)), int)

    def test_what_is_no_list_of_numbers(self):
        for wrong in [None, True, 0, 3, Ratio(1), "1", "", {}, {1: 1}, half_house(), [1, True], [1, None], (1, [2]),
                      ["1"], [[1]], [False], ([1],)]:
            for call in (total, least, greatest):
                with self.subTest(wrong=wrong, call=call):
                    self.refused(InvalidNumber, wrong, call, wrong)

    def test_empty_lists(self):
        for empty in ([], ()):
            self.refused(InvalidNumber, empty, least, empty)
            self.refused(InvalidNumber, empty, greatest, empty)

    def test_long_numbers_are_judged_compared_and_summed(self):
        draw = random.Random(15)
        for _ in range(200):
            numbers = [draw.choice([draw.randint(-10 ** 60, 10 ** 60), draw.randint(-1, 2),
                                    Ratio(draw.randint(-10 ** 60, 10 ** 60), draw.randint(1, 10 ** 60)),
                                    Ratio(10 ** 60 - 1, 10 ** 60), Ratio(draw.randint(-2, 2))]) for _ in range(8)]
            plain = [as_fraction(number) for number in numbers]
            for number, exact in zip(numbers, plain):
                self.assertIs(is_number(number), True)
                self.assertIs(is_amount(number), exact >= 0)
                self.assertIs(is_share(number), 0 <= exact <= 1)
                for other, exact_other in zip(numbers, plain):
                    self.assertIs(as_ratio(number).below(other), exact < exact_other)
                    self.assertIs(as_ratio(number) == other, exact == exact_other)
                    self.assertEqual(as_fraction(as_ratio(number) + other), exact + exact_other)
                    self.assertEqual(as_fraction(as_ratio(number) - other), exact - exact_other)
                    self.assertEqual(as_fraction(as_ratio(number) * other), exact * exact_other)
            self.assertEqual(as_fraction(total(numbers)), sum(plain))
            self.assertEqual((least(numbers), greatest(numbers)), (plain.index(min(plain)), plain.index(max(plain))))

    def test_arguments_stay_as_they_are(self):
        numbers = [3, Ratio(1, 2), 1]
        total(numbers), least(numbers), greatest(numbers)
        self.assertEqual(numbers, [3, Ratio(1, 2), 1])


if __name__ == "__main__":
    unittest.main()
