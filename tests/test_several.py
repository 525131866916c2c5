"""Promises 121 to 125: several things."""

import random
import unittest
from fractions import Fraction

from tests.checks import Case, any_values, large_house, tied_house
from tests.samples import (
    document_house, eleven_house, every_lot, every_order, fraction, long_house, long_share, numbers_of,
    random_order, random_wish, ratio, small_houses, there, wants, wish_with,
)
from tests.test_best import is_plain_roof, random_worths, value
from tests.test_lots import NO_COUNTS, NO_HOUSES, NO_LOTS, mean
from tests.test_mixtures import large_wishes
from tests.test_rules import no_days, no_orders
from tests.test_wishes import NO_DICTS, WRONG_KEYS, no_pairs
from winoften.best import best, is_roof, roof
from winoften.errors import (
    Duplicate, Impossible, InvalidCount, InvalidDay, InvalidHouse, InvalidLot, InvalidNumber, InvalidOrder,
    InvalidWish, InvalidWorths, TooMany, UnknownPair,
)
from winoften.houses import House
from winoften.lots import lot_of, several
from winoften.mixtures import is_mixing, mixing
from winoften.possible import answer, excess, is_possible
from winoften.ratios import Ratio
from winoften.rules import Rule, is_order, order_wish, winner
from winoften.several import (
    fewest_things, is_several_answer, is_several_mixing, several_answer, several_best, several_excess,
    several_mixing, several_roof, several_winners, several_wish,
)
from winoften.wishes import Wish

HALF = Ratio(1, 2)
LOW, HIGH, BOB = ("ann", "low"), ("ann", "high"), ("bob", "low")
TINY = Ratio(1, 10 ** 50)
COUNTS = (1, 2, 3, 4)


def three_house():
    """The house of the document's example."""
    return House([(name, [("a", HALF)]) for name in ("ann", "bob", "cid")])


def several_numbers(house, order, most):
    """The numbers of an order for so many things as Fractions, by the definition."""
    won = {pair: Fraction(0) for pair in house.pairs()}
    for day, chance in house.days():
        for pair in [pair for pair in order if pair in there(house, day)][:most]:
            won[pair] += fraction(chance)
    return {pair: won[pair] / fraction(house.chance(pair)) for pair in won}


def mixed_several_wish(draw, house, most, orders=3):
    """A wish that is possible for so many things: the mixture of a few random orders."""
    weights = [draw.randint(1, 4) for _ in range(orders)]
    mixed = {pair: Fraction(0) for pair in house.pairs()}
    for weight in weights:
        for pair, number in several_numbers(house, random_order(draw, house), most).items():
            mixed[pair] += number * weight / sum(weights)
    return wish_with(house, mixed)


def plain_excesses(wish, most):
    wanted = wants(wish)
    return {tuple(lot): sum([wanted[pair] for pair in lot], Fraction(0)) - mean(wish.house, lot, most)
            for lot in every_lot(wish.house)}


def table_numbers(house, table):
    """The numbers of a table, by the definition."""
    won = {pair: Fraction(0) for pair in house.pairs()}
    for day, shares in table.items():
        for pair in there(house, day):
            won[pair] += fraction(house.day_chance(day)) * value(shares.get(pair[0], 0))
    return [won[pair] / fraction(house.chance(pair)) for pair in won]


class WrongArguments(Case):
    def wish_calls(self):
        """All functions with a wish, with what stands between it and the count."""
        return [(several_excess, ([LOW],)), (several_answer, ()), (is_several_answer, (None,)), (several_mixing, ()),
                (is_several_mixing, (None,))]

    def test_wrong_wishes_and_counts(self):
        wish = Wish(document_house(), {LOW: 9})
        for call, between in self.wish_calls():
            for wrong in [*any_values(), document_house(), str(wish)]:
                self.refused(InvalidWish, wrong, call, wrong, *[None for _ in between], None)
            for wrong in NO_COUNTS:
                self.refused(InvalidCount, wrong, call, wish, *between, wrong)
        for wrong in any_values():
            self.refused(InvalidWish, wrong, fewest_things, wrong)

    def test_wrong_lots(self):
        wish = Wish(document_house(), {})
        for wrong in NO_LOTS:
            self.refused(InvalidLot, wrong, several_excess, wish, wrong, None)
        for wrong in no_pairs():
            self.refused(UnknownPair, wrong, several_excess, wish, [LOW, wrong, LOW], None)
        again = tuple(["ann", "low"])
        self.refused(Duplicate, again, several_excess, wish, [LOW, again, None], None)

    def test_wrong_houses_orders_and_days(self):
        house = document_house()
        for wrong in NO_HOUSES:
            self.refused(InvalidHouse, wrong, several_winners, wrong, None, None, None)
            self.refused(InvalidHouse, wrong, several_wish, wrong, None, None)
        for wrong in no_orders():
            with self.subTest(wrong):
                self.refused(InvalidOrder, wrong, several_winners, house, wrong, None, None)
                self.refused(InvalidOrder, wrong, several_wish, house, wrong, None)
        for wrong in no_days():
            with self.subTest(wrong):
                self.refused(InvalidDay, wrong, several_winners, house, [LOW], wrong, None)
        for wrong in NO_COUNTS:
            self.refused(InvalidCount, wrong, several_winners, house, [LOW], ("low", "low"), wrong)
            self.refused(InvalidCount, wrong, several_wish, house, [LOW], wrong)

    def test_wrong_worths(self):
        house = document_house()
        for call in (several_best, several_roof):
            for wrong in NO_HOUSES:
                self.refused(InvalidHouse, wrong, call, wrong, None, None)
            for wrong in NO_DICTS:
                self.refused(InvalidWorths, wrong, call, house, wrong, None)
            for wrong in WRONG_KEYS:
                self.refused(UnknownPair, wrong, call, house, {LOW: 1, wrong: None}, None)
            self.refused(InvalidNumber, True, call, house, {LOW: True}, None)
            for wrong in NO_COUNTS:
                self.refused(InvalidCount, wrong, call, house, {LOW: 1}, wrong)

    def test_mixing_of_many_pairs_and_of_impossible_wishes(self):
        many = Wish(eleven_house(), {("x", "a"): 9})
        self.refused(InvalidCount, 0, several_mixing, many, 0)
        self.refused_with_equal(TooMany, 11, several_mixing, many, 1)
        self.assertIs(is_several_mixing(Wish(eleven_house(), {}), [(1, [])], 4), True)
        draw = random.Random(120)
        seen = 0
        for house in small_houses(121, 20):
            for most in COUNTS:
                wish = random_wish(draw, house).scaled(2)
                if max(plain_excesses(wish, most).values()) > 0:
                    seen += 1
                    lot = self.caught(Impossible, several_mixing, wish, most).lot
                    self.assertEqual(lot, lot_of(house, lot))
                    self.assertGreater(plain_excesses(wish, most)[tuple(lot)], 0)
        self.assertGreater(seen, 20)


class Answers(Case):
    def checked(self, wish, most):
        """The word of an answer; what is told with it is checked by its definition."""
        told = several_answer(wish=wish, most=most)
        self.assertIs(type(told), tuple)
        word, found = told
        if word == "table":
            self.assertIs(type(found), dict)
            for day, shares in found.items():
                self.assertNotEqual(wish.house.day_chance(day), 0)
                self.assertLessEqual(set(shares), {name for name, _ in there(wish.house, day)})
                self.assertTrue(all([type(share) is Ratio for share in shares.values()]))
                tops = [fraction(share) for share in shares.values()]
                self.assertTrue(all([0 <= share <= 1 for share in tops]) and sum(tops) <= most)
            self.assertEqual(table_numbers(wish.house, found), numbers_of(wish))
        else:
            self.assertEqual(word, "lot")
            self.assertEqual(found, lot_of(wish.house, found))
            self.assertTrue(Ratio(0).below(several_excess(wish, found, most)))
        self.assertIs(is_several_answer(wish=wish, told=told, most=most), True)
        return word

    def test_document_example(self):
        house = three_house()
        wish = Wish(house, {pair: Ratio(4, 5) for pair in house.pairs()})
        self.assertEqual(
            [several_excess(wish, house.pairs(), 1).text(), several_excess(wish, house.pairs(), 2).text(),
             several_answer(wish, 1)[0], fewest_things(wish)], ["13/40", "-7/40", "lot", 2])
        self.assertEqual([several_winners(house, house.pairs()[::-1], ("a", "a", "a"), 2),
                          several_best(house, {("ann", "a"): 1, ("cid", "a"): 1}, 1)[0].text()],
                         [["cid", "bob"], "3/4"])

    def test_a_table_exactly_if_no_lot_wants_too_much(self):
        draw = random.Random(122)
        words = {}
        for house in small_houses(123, 40):
            for most in COUNTS:
                for wish in (random_wish(draw, house), mixed_several_wish(draw, house, most),
                             mixed_several_wish(draw, house, most, 2).scaled(Ratio(1) + TINY)):
                    word = self.checked(wish, most)
                    words.setdefault((word, most), []).append(wish)
                    self.assertEqual(word == "table", max(plain_excesses(wish, most).values()) <= 0)
        self.assertEqual(len(words), 8)
        self.assertGreater(min([len(found) for found in words.values()]), 10)

    def test_excess_by_definition(self):
        draw = random.Random(124)
        for house in small_houses(125, 15, 5):
            wish = random_wish(draw, house)
            for most in COUNTS:
                for lot, expected in plain_excesses(wish, most).items():
                    told = several_excess(wish=wish, lot=lot, most=most)
                    self.assertIs(type(told), Ratio)
                    self.assertEqual(fraction(told), expected)

    def test_one_thing_is_as_before(self):
        draw = random.Random(126)
        for house in small_houses(127, 30):
            wish = random_wish(draw, house)
            self.assertEqual(several_answer(wish, 1)[0] == "table", is_possible(wish))
            lot = random_order(draw, house)
            self.assertEqual(several_excess(wish, lot, 1), excess(wish, lot))
            order, worths = random_order(draw, house), random_worths(draw, house)
            self.assertTrue(several_wish(house, order, 1) == order_wish(house, order))
            for day, _ in house.days():
                name = winner(house, order, day)
                self.assertEqual(several_winners(house, order, day, 1), [] if name is None else [name])
            self.assertEqual(several_best(house, worths, 1), best(house, worths))
            self.assertEqual(several_roof(house, worths, 1), roof(house, worths))
            if is_possible(wish):
                self.assertTrue(is_mixing(wish, several_mixing(wish, 1)))
                self.assertTrue(is_several_mixing(wish, mixing(wish), 1))
                word, rule = answer(wish)
                table = {day: rule.shares(day) for day, _ in house.days()}
                self.assertTrue(is_several_answer(wish, ("table", table), 1))

    def test_largest_houses(self):
        draw = random.Random(128)
        for house in (large_house(), long_house(draw)):
            wish = Wish(house, {pair: Ratio(2, 5) + long_share(draw) * Ratio(1, 9) for pair in house.pairs()})
            words = [several_answer(wish, most) for most in COUNTS]
            self.assertEqual([word for word, _ in words], ["lot", "table", "table", "table"])
            for most, told in zip(COUNTS, words):
                self.assertIs(is_several_answer(wish, told, most), True)
            self.assertEqual(fewest_things(wish), 2)

    def test_judged_tables(self):
        house = document_house()
        table = {("low", "low"): {"ann": 1, "bob": HALF}, ("high", None): {"ann": Ratio(1, 4)}}
        wish = Wish(house, {LOW: HALF, HIGH: Ratio(1, 8), BOB: Ratio(1, 4)})
        told = ("table", table)
        self.assertIs(is_several_answer(wish, told, 2), True)
        self.assertIs(is_several_answer(wish, told, 4), True)
        self.assertIs(is_several_answer(wish, told, 1), False)
        self.assertIs(is_several_answer(wish, ("table", {**table, ("high", "low"): {}, ("low", None): {"ann": 0}}), 2),
                      True)
        for day, shares in [
            (("low", "low"), {"ann": 1}), (("low", "low"), {"ann": 1, "bob": HALF + TINY}), (("low", None), {"bob": 0}),
            (("low", None), {"ann": TINY}), ((None, None), {}), (("low",), {}), (None, {}), ("low low", {}),
            (("low", "zed"), {}), (("high", None), {"ann": True}), (("high", None), {"ann": "1/4"}),
            (("high", None), [("ann", Ratio(1, 4))]), (("high", None), None), (("low", "low"), {"ann": Ratio(3, 2)}),
            (("high", "low"), {"ann": -1}), (("high", "low"), {"zed": 0}), (("high", "low"), {None: 0}),
        ]:
            with self.subTest(day=day, shares=shares):
                self.assertIs(is_several_answer(wish, ("table", {**table, day: shares}), 2), False)
        for other in [["table", table], ("table", table, 1), ("table",), table, ("rule", table), ("lot", table),
                      ("table", [table]), ("table", list(table.items())), ("table", None), *any_values(),
                      *[("table", thing) for thing in any_values()], *[("lot", thing) for thing in any_values()],
                      ("table", Rule(house, {}))]:
            with self.subTest(other):
                self.assertIs(is_several_answer(wish, other, 2), False)
        self.assertIs(is_several_answer(Wish(house, {}), ("table", {}), 1), True)

    def test_a_share_above_one_is_no_share(self):
        house = House([("ann", [("a", 1)]), ("bob", [("a", 1)])])
        wish = Wish(house, {("ann", "a"): Ratio(3, 2)})
        self.assertIs(is_several_answer(wish, ("table", {("a", "a"): {"ann": Ratio(3, 2)}}), 2), False)
        self.assertEqual(several_answer(wish, 4), ("lot", [("ann", "a")]))

    def test_judged_lots(self):
        house = three_house()
        pairs = house.pairs()
        wish = Wish(house, {pair: Ratio(4, 5) for pair in pairs})
        for lot in every_lot(house):
            for most in COUNTS:
                expected = plain_excesses(wish, most)[tuple(lot)] > 0
                self.assertIs(is_several_answer(wish, ("lot", lot[::-1]), most), expected)
                self.assertIs(is_several_answer(wish, ("lot", tuple(lot)), most), expected)
        self.assertIs(is_several_answer(wish, ("lot", [*pairs, pairs[0]]), 1), False)
        self.assertIs(is_several_answer(wish, ("lot", [*pairs, ("zed", "a")]), 1), False)

    def test_new_and_equal_results(self):
        house = document_house()
        wish = Wish(house, {LOW: 1, BOB: Ratio(3, 4)})
        _, table = several_answer(wish, 2)
        for shares in table.values():
            shares.clear()
        table.clear()
        again = several_answer(Wish(House.tied([("ann", ("low", "high")), ("bob", ["low"])], house.days()),
                                    {BOB: Ratio(6, 8), LOW: Ratio(1)}), 2)
        self.assertEqual(several_answer(wish, 2), again)
        self.assertIs(is_several_answer(wish, again, 2), True)

    def test_fewest_things(self):
        draw = random.Random(129)
        seen = set()
        for house in small_houses(130, 40):
            for factor in (1, 2, 3):
                wish = mixed_several_wish(draw, house, 4).scaled(Ratio(factor, 2))
                expected = [most for most in COUNTS if max(plain_excesses(wish, most).values()) <= 0]
                told = fewest_things(wish=wish)
                self.assertEqual(told, expected[0] if expected else None)
                seen.add(told)
        self.assertEqual(seen, {None, 1, 2, 3})
        for many, expected in ((1, 1), (2, 2), (3, 3), (4, 4)):
            house = House([(name, [("a", HALF)]) for name in ("v", "w", "x", "y")[:many]])
            self.assertEqual(fewest_things(Wish(house, {pair: 1 for pair in house.pairs()})), expected)
            self.assertIsNone(fewest_things(Wish(house, {house.pairs()[-1]: Ratio(1) + TINY})))


class Orders(Case):
    def test_winners_and_wishes(self):
        draw = random.Random(131)
        for house in small_houses(132, 30):
            order = random_order(draw, house)
            for most in COUNTS:
                for day, _ in house.days():
                    told = several_winners(house=house, order=order, day=day, most=most)
                    self.assertEqual(told, [name for name, kind in order if (name, kind) in there(house, day)][:most])
                wish = several_wish(house=house, order=tuple(order), most=most)
                self.assertEqual(numbers_of(wish), list(several_numbers(house, order, most).values()))
        self.assertEqual(several_winners(tied_house(), tied_house().pairs(), ("a", "a"), 2), ["ann", "bob"])

    def test_large_houses(self):
        house = large_house()
        order = house.pairs()[::2] + house.pairs()[1::2]
        for most in COUNTS:
            self.assertEqual(several_wish(house, order, most).total(), several(house, order, most))


class Mixings(Case):
    def checked(self, wish, most):
        told = several_mixing(wish=wish, most=most)
        self.assertLessEqual(len(told), len(wish.house) + 1)
        mixed = {pair: Fraction(0) for pair in wish.house.pairs()}
        for share, order in told:
            self.assertTrue(type(share) is Ratio and Ratio(0).below(share) and type(order) is list)
            self.assertTrue(is_order(wish.house, order))
            for pair, number in several_numbers(wish.house, order, most).items():
                mixed[pair] += number * fraction(share)
        self.assertEqual(len({tuple(order) for _, order in told}), len(told))
        self.assertEqual(sum([fraction(share) for share, _ in told]), 1)
        self.assertEqual(list(mixed.values()), numbers_of(wish))
        self.assertIs(is_several_mixing(wish=wish, told=told, most=most), True)
        return told

    def test_small_houses(self):
        draw = random.Random(133)
        for house in small_houses(134, 30):
            for most in COUNTS:
                for orders in (1, 2, 5):
                    self.checked(mixed_several_wish(draw, house, most, orders), most)
                    self.checked(mixed_several_wish(draw, house, most, orders).scaled(Ratio(2, 3)), most)

    def test_ten_pairs_and_long_numbers(self):
        for place, wish in enumerate(large_wishes(135)):
            self.checked(wish, 1 + place % 4)
            most = 2 + place % 3
            over = wish.scaled(Ratio(3, 2))
            if several_answer(over, most)[0] == "table":
                self.checked(over, most)

    def test_judged(self):
        house = three_house()
        ann, bob, cid = house.pairs()
        wish = several_wish(house, [ann, bob, cid], 2).mixed(several_wish(house, [cid], 2), HALF)
        told = [(HALF, [ann, bob, cid]), (HALF, [cid])]
        self.assertIs(is_several_mixing(wish, told, 2), True)
        self.assertIs(is_several_mixing(wish, tuple(told), 2), True)
        self.assertIs(is_several_mixing(wish, told[::-1], 2), True)
        self.assertIs(is_several_mixing(wish, [(Ratio(1, 2), (ann, bob, cid)), (HALF, (cid,))], 2), True)
        self.assertIs(is_several_mixing(wish, told, 1), False)
        self.assertIs(is_several_mixing(wish, told, 3), False)
        for wrong in [
            [(HALF, [bob, ann, cid]), (HALF, [cid, bob])], [told[0]], [], [(HALF, [ann, bob, cid]), (HALF, [])],
            [*told, (0, [bob])], [list(told[0]), told[1]], [told[0], (HALF, [cid], 1)], [told[0], (HALF, [cid, cid])],
            [told[0], (Ratio(1, 4), [cid]), (Ratio(1, 4), [cid])], [told[0], (HALF - TINY, [cid])], dict(told[:0]),
            [told[0], (Ratio(1, 4), [cid]), (Ratio(1, 4), (cid,))], [told[0], (HALF, None)], *any_values(),
        ]:
            with self.subTest(wrong):
                self.assertIs(is_several_mixing(wish, wrong, 2), False)


class Best(Case):
    def test_no_order_is_worth_more(self):
        draw = random.Random(136)
        for house in small_houses(137, 25, 4):
            worths = random_worths(draw, house)
            for most in COUNTS:
                worth, order = several_best(house=house, worths=worths, most=most)
                self.assertIs(type(worth), Ratio)
                plain = [sum([number * fraction(house.chance(pair)) * value(worths.get(pair, 0))
                              for pair, number in several_numbers(house, other, most).items()], Fraction(0))
                         for other in [order, *every_order(house)]]
                self.assertEqual([fraction(worth)] * 2, [plain[0], max(plain)])
                self.assertEqual(order, best(house, worths)[1])
                found = several_roof(house=house, worths=worths, most=most)
                self.assertTrue(is_plain_roof(house, worths, found))
                self.assertEqual(sum([mean(house, lot, most) * value(weight) for lot, weight in found], Fraction(0)),
                                 fraction(worth))
                for lot, weight in found:
                    self.assertTrue(lot and type(weight) is Ratio and Ratio(0).below(weight))
                    self.assertEqual(lot, lot_of(house, lot))

    def test_largest_houses(self):
        draw = random.Random(138)
        for house in (large_house(), long_house(draw)):
            worths = {pair: long_share(draw) for pair in house.pairs()}
            for most in COUNTS:
                worth, order = several_best(house, worths, most)
                bounds = [several(house, lot, most) * weight for lot, weight in several_roof(house, worths, most)]
                self.assertEqual(sum([fraction(bound) for bound in bounds]), fraction(worth))
                self.assertEqual(len(order), 16)
            self.assertTrue(is_roof(house, worths, several_roof(house, worths, 4), several_best(house, worths, 1)[0]))

    def test_new_lists(self):
        house, worths = document_house(), {LOW: 1, BOB: 2}
        told = several_roof(house, worths, 2)
        told[0][0].clear()
        several_best(house, worths, 2)[1].clear()
        self.assertEqual(several_roof(house, worths, 2), [([BOB], 1), ([LOW, BOB], 1)])
        self.assertEqual(several_best(house, worths, 2), (Ratio(3, 2), [BOB, LOW]))


if __name__ == "__main__":
    unittest.main()
