"""Promises 4 and 41 to 44: wishes."""

import random
import unittest

from tests.checks import Case, any_values, half_house, large_house, tied_house
from tests.samples import (
    document_house, fraction, long_house, long_share, plain_want, random_wish, small_houses, sure_house, wants,
)
from tests.test_lots import NO_HOUSES, NO_LOTS
from winoften.errors import (
    Duplicate, InvalidHouse, InvalidLot, InvalidName, InvalidNumber, InvalidText, InvalidWish, UnknownName,
    UnknownPair,
)
from winoften.houses import House
from winoften.ratios import Ratio
from winoften.wishes import Wish

HALF = Ratio(1, 2)
LOW, HIGH, BOB = ("ann", "low"), ("ann", "high"), ("bob", "low")
NO_DICTS = [None, True, 0, Ratio(1), "", "ann", [], (), [(LOW, 1)], ((LOW, 1),), [LOW]]
NO_AMOUNTS = [None, True, False, -1, Ratio(-1, 2), "1", "1/2", "", [], [1], (1,), {}, half_house()]
NO_SHARES = [*NO_AMOUNTS, 2, Ratio(3, 2)]
WRONG_KEYS = [None, 0, 1, "", "ann", "ann low", (), ("ann",), ("ann", "zed"), ("bob", "high"), ("low", "ann"),
              ("ann", "low", "low"), (LOW,), (0, 0), (None, None), ("Ann", "low"), ("ann", 0)]


def no_pairs():
    """Values that are no pairs of the house of the document."""
    return [value for value in any_values() if value != LOW] + [["ann", "low"], ("bob", "high"), ("ann", "low ")]


def no_names():
    return [value for value in any_values() if value != "ann"] + ["low", "Ann", ("ann",), ["ann"], "ann "]


def no_wishes(house):
    """Values that are no wishes for a house."""
    return [*any_values(), Wish(tied_house(), {}), Wish(sure_house(), {}), [Wish(house, {})], str(Wish(house, {}))]


class Making(Case):
    def test_document_example(self):
        house = House([("ann", [("low", HALF), ("high", Ratio(1, 4))]), ("bob", [("low", 1)])])
        wish = Wish(house, {BOB: HALF, HIGH: 1})
        self.assertEqual(
            [wish.want([HIGH, BOB]).text(), wish.of_bidder("bob").text(), wish.number(LOW).text(), str(wish)],
            ["3/4", "1/2", "0", "ann low 0; ann high 1; bob low 1/2"])

    def test_numbers(self):
        house = document_house()
        wish = Wish(house=house, numbers={BOB: 7, LOW: Ratio(3, 6)})
        self.assertIs(wish.house, house)
        self.assertEqual(list(wish.numbers().items()), [(LOW, HALF), (HIGH, 0), (BOB, 7)])
        for pair, number in wish.numbers().items():
            self.assertIs(type(number), Ratio)
            self.assertIs(type(wish.number(pair)), Ratio)
            self.assertEqual(wish.number(pair=pair), number)
        self.assertEqual([number.text() for number in Wish(house, {}).numbers().values()], ["0", "0", "0"])

    def test_wrong_house(self):
        for wrong in NO_HOUSES:
            with self.subTest(wrong):
                self.refused(InvalidHouse, wrong, Wish, wrong, None)
                self.refused(InvalidHouse, wrong, Wish.read, wrong, None)

    def test_wrong_numbers(self):
        for wrong in NO_DICTS:
            with self.subTest(wrong):
                self.refused(InvalidWish, wrong, Wish, document_house(), wrong)

    def test_wrong_keys_and_values(self):
        for wrong in WRONG_KEYS:
            with self.subTest(wrong):
                self.refused(UnknownPair, wrong, Wish, document_house(), {LOW: 1, wrong: -1, HIGH: -1})
        for wrong in NO_AMOUNTS:
            with self.subTest(wrong):
                self.refused(InvalidNumber, wrong, Wish, document_house(), {LOW: 0, HIGH: wrong, "zed": 1})
        self.refused(InvalidNumber, None, Wish, document_house(), {BOB: None, LOW: -1})
        self.refused(UnknownPair, "zed", Wish, document_house(), {"zed": None, LOW: -1})

    def test_wrong_pair(self):
        wish = Wish(document_house(), {LOW: 1})
        for wrong in no_pairs():
            with self.subTest(wrong):
                self.refused(UnknownPair, wrong, wish.number, wrong)

    def test_nothing_is_shared(self):
        told = {LOW: 1}
        wish = Wish(document_house(), told)
        told[LOW] = 2
        told[HIGH] = 3
        numbers = wish.numbers()
        self.assertIsNot(numbers, wish.numbers())
        numbers.clear()
        self.assertEqual([number.text() for number in wish.numbers().values()], ["1", "0", "0"])

    def test_arguments_stay(self):
        told = {HIGH: HALF, LOW: 1}
        Wish(document_house(), told)
        self.assertEqual(list(told.items()), [(HIGH, HALF), (LOW, 1)])
        self.assertIs(type(told[LOW]), int)


class Equality(Case):
    def test_equal(self):
        one = Wish(document_house(), {LOW: 1, BOB: Ratio(2, 4), HIGH: 0})
        other = Wish(document_house(), {BOB: HALF, LOW: Ratio(1)})
        self.assertTrue(one == other)
        self.assertFalse(one != other)

    def test_unlike(self):
        one = Wish(document_house(), {LOW: 1})
        for other in [Wish(document_house(), {LOW: 2}), Wish(document_house(), {HIGH: 1}),
                      Wish(half_house(), {LOW: 1}), Wish(document_house(), {LOW: 1, BOB: Ratio(1, 10 ** 50)})]:
            self.assertFalse(one == other)
            self.assertTrue(one != other)
        for other in [*any_values(), one.numbers(), str(one), document_house()]:
            self.assertFalse(one == other)

    def test_equal_houses_however_made(self):
        house = document_house()
        tied = House.tied([("ann", ["low", "high"]), ("bob", ["low"])], house.days()[::-1])
        self.assertTrue(Wish(house, {LOW: 1}) == Wish(tied, {LOW: 1}))
        self.assertTrue(Wish(house, {LOW: 1}).within(Wish(tied, {LOW: 1})))


class Wants(Case):
    def test_by_definition(self):
        draw = random.Random(41)
        for house in small_houses(42, 30):
            wish = random_wish(draw, house)
            for lot in [[], house.pairs(), tuple(house.pairs()[::-1]), draw.sample(house.pairs(), 1)]:
                told = wish.want(lot=lot)
                self.assertIs(type(told), Ratio)
                self.assertEqual(fraction(told), plain_want(wish, lot))
            self.assertEqual(fraction(wish.total()), plain_want(wish, house.pairs()))
            for name in house.names():
                expected = sum([want for (bidder, _), want in wants(wish).items() if bidder == name])
                self.assertEqual(fraction(wish.of_bidder(name=name)), expected)
                self.assertIs(type(wish.of_bidder(name)), Ratio)

    def test_wrong_lots(self):
        wish = Wish(document_house(), {LOW: 1})
        for wrong in NO_LOTS:
            self.refused(InvalidLot, wrong, wish.want, wrong)
        for wrong in no_pairs():
            with self.subTest(wrong):
                self.refused(UnknownPair, wrong, wish.want, [LOW, wrong, LOW])
        again = tuple(["ann", "low"])
        self.refused(Duplicate, again, wish.want, [LOW, again, "zed"])

    def test_wrong_names(self):
        wish = Wish(document_house(), {LOW: 1})
        for wrong in no_names():
            with self.subTest(wrong):
                self.refused(UnknownName, wrong, wish.of_bidder, wrong)


class NewWishes(Case):
    def wish(self):
        return Wish(document_house(), {LOW: HALF, BOB: 3})

    def test_scaled(self):
        wish = self.wish()
        self.assertEqual(str(wish.scaled(factor=Ratio(2, 3))), "ann low 1/3; ann high 0; bob low 2")
        self.assertEqual(str(wish.scaled(0)), "ann low 0; ann high 0; bob low 0")
        self.assertEqual(wish.scaled(1), wish)
        self.assertEqual(str(wish), "ann low 1/2; ann high 0; bob low 3")
        self.assertIs(wish.scaled(2).house, wish.house)
        for wrong in NO_AMOUNTS:
            self.refused(InvalidNumber, wrong, wish.scaled, wrong)

    def test_mixed(self):
        wish, other = self.wish(), Wish(document_house(), {LOW: 1, HIGH: 1})
        self.assertEqual(str(wish.mixed(other=other, share=Ratio(1, 4))), "ann low 7/8; ann high 3/4; bob low 3/4")
        self.assertEqual(wish.mixed(other, 1), wish)
        self.assertEqual(wish.mixed(other, 0), other)
        for wrong in NO_SHARES:
            self.refused(InvalidNumber, wrong, wish.mixed, other, wrong)
        for wrong in no_wishes(document_house()):
            with self.subTest(wrong):
                self.refused(InvalidWish, wrong, wish.mixed, wrong, None)

    def test_with_number(self):
        wish = self.wish()
        self.assertEqual(str(wish.with_number(pair=BOB, number=0)), "ann low 1/2; ann high 0; bob low 0")
        self.assertEqual(str(wish.with_number(HIGH, Ratio(9, 3))), "ann low 1/2; ann high 3; bob low 3")
        self.assertEqual(str(wish), "ann low 1/2; ann high 0; bob low 3")
        for wrong in no_pairs():
            with self.subTest(wrong):
                self.refused(UnknownPair, wrong, wish.with_number, wrong, None)
        for wrong in NO_AMOUNTS:
            self.refused(InvalidNumber, wrong, wish.with_number, BOB, wrong)

    def test_turned(self):
        kinds = [("a", HALF), ("b", Ratio(1, 4))]
        house = House([("w", kinds), ("x", [("a", 1)]), ("y", [("a", Ratio(1, 8)), ("b", HALF)]), ("z", kinds[::-1])])
        wish = Wish(house, {("w", "a"): 1, ("w", "b"): 2, ("x", "a"): 3, ("y", "a"): 4, ("y", "b"): 5, ("z", "a"): 6})
        turned = "w a 4; w b 5; x a 3; y a 1; y b 2; z b 0; z a 6"
        self.assertEqual(str(wish.turned("w", "y")), turned)
        self.assertEqual(str(wish.turned(one="y", other="w")), turned)
        self.assertEqual(wish.turned("x", "x"), wish)
        for wrong in no_names():
            self.refused(UnknownName, wrong, wish.turned, wrong, "zed")
            self.refused(UnknownName, wrong, wish.turned, "w", wrong)
        for one, other in [("w", "x"), ("x", "w"), ("w", "z"), ("z", "y")]:
            self.refused(InvalidName, other, wish.turned, one, other)

    def test_within(self):
        wish = self.wish()
        self.assertIs(wish.within(other=wish), True)
        self.assertIs(wish.within(wish.with_number(HIGH, 1)), True)
        for pair in (LOW, BOB):
            self.assertIs(wish.with_number(HIGH, 9).within(wish.with_number(HIGH, 9).with_number(pair, 0)), False)
        self.assertIs(wish.within(wish.with_number(BOB, Ratio(3 * 10 ** 50 - 1, 10 ** 50))), False)
        for wrong in no_wishes(document_house()):
            with self.subTest(wrong):
                self.refused(InvalidWish, wrong, wish.within, wrong)


class Texts(Case):
    def test_read_back(self):
        draw = random.Random(43)
        for house in [*small_houses(44, 30), large_house()]:
            wish = random_wish(draw, house)
            text = str(wish)
            self.assertEqual(text, "; ".join(
                f"{name} {kind} {number.text()}" for (name, kind), number in wish.numbers().items()))
            told = Wish.read(house=house, text=text)
            self.assertTrue(told == wish)
            self.assertIs(told.house, house)
        house = long_house(draw)
        wish = Wish(house, {pair: Ratio(draw.randint(0, 10 ** 49), 10 ** 49 + 9) for pair in house.pairs()})
        self.assertTrue(Wish.read(house, str(wish)) == wish)

    def test_nearly_texts(self):
        text = "ann low 1/2; ann high 0; bob low 3"
        self.assertEqual(str(Wish.read(document_house(), text)), text)
        for wrong in [
            "", " ", text + ";", text + "; ", text + " ", " " + text, text + "\n", text.replace("; ", ";"),
            text.replace("; ", ", "), text.replace(";", " ;"), text.replace("; ", ";\n"), text.replace(" low", "  low"),
            text.replace("1/2", "2/4"), text.replace("1/2", "-1/2"), text.replace("1/2", "+1/2"),
            text.replace("1/2", "1/2/1"), text.replace("1/2", "1 / 2"), text.replace("1/2", "0.5"),
            text.replace(" 0", " -0"), text.replace(" 0", ""), text.replace(" 0", " 0/1"), text.replace(" 3", " 03"),
            text.replace("ann high", "ann zed"), text.replace("ann high", "annhigh"), text.replace("bob", "Bob"),
            "ann low 1/2; bob low 3", "ann low 1/2; ann high 0", "ann low 1/2; ann low 1/2; ann high 0; bob low 3",
            "ann low 1/2; bob low 3; ann high 0", text + "; bob low 3", "ann low 1/2", "ann low; ann high; bob low",
            "ann: low 1/2; high 0; bob: low 3", text.replace("3", "1" + "0" * 100), text.replace("3", "\u0663"),
        ]:
            with self.subTest(wrong):
                self.refused(InvalidText, wrong, Wish.read, document_house(), wrong)

    def test_no_texts(self):
        house = document_house()
        for wrong in [*any_values(), Wish(house, {}), [str(Wish(house, {}))], str(Wish(tied_house(), {}))]:
            with self.subTest(wrong):
                self.refused(InvalidText, wrong, Wish.read, house, wrong)

    def test_longest_number(self):
        house = document_house()
        longest = "9" * 100
        self.assertEqual(Wish.read(house, f"ann low 0; ann high 0; bob low {longest}").number(BOB), int(longest))
        wish = Wish(house, {BOB: long_share(random.Random(45))})
        text = str(wish)
        self.refused(InvalidText, text, Wish.read, house, text)


if __name__ == "__main__":
    unittest.main()
