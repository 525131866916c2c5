"""Promises 91 to 94: the best wishes."""

import random
import unittest
from fractions import Fraction

from tests.checks import Case, any_values, large_house, tied_house
from tests.samples import (
    document_house, every_order, excesses, fraction, long_house, long_share, numbers_of, order_numbers, plain_coming,
    plain_possible, possible_wish, random_order, random_wish, ratio, small_houses,
)
from tests.test_lots import NO_HOUSES
from tests.test_rules import no_orders
from tests.test_wishes import NO_DICTS, WRONG_KEYS
from winoften.best import best, is_roof, lost, roof, worth_of, worths_for
from winoften.errors import Impossible, InvalidHouse, InvalidNumber, InvalidOrder, InvalidWish, InvalidWorths, UnknownPair
from winoften.houses import House
from winoften.lots import lot_of
from winoften.mixtures import corners
from winoften.ratios import Ratio
from winoften.rules import Rule, is_order, order_wish
from winoften.wishes import Wish

HALF = Ratio(1, 2)
LOW, HIGH, BOB = ("ann", "low"), ("ann", "high"), ("bob", "low")
TINY = Ratio(1, 10 ** 50)
NO_NUMBERS = [None, True, False, "1", "", [], [1], (1,), {}]


def value(number):
    return fraction(number) if isinstance(number, Ratio) else Fraction(number)


def random_worths(draw, house):
    """Worths for some or all pairs, in any order, negative ones and equal ones too."""
    pairs = draw.sample(house.pairs(), draw.randint(0, len(house)))
    return {pair: draw.choice([draw.randint(-2, 3), Ratio(draw.randint(-3, 9), draw.randint(1, 4))]) for pair in pairs}


def plain_worth(house, numbers, worths):
    """The worth of numbers of pairs, by the definition."""
    return sum([fraction(house.chance(pair)) * number * value(worths.get(pair, 0))
                for pair, number in zip(house.pairs(), numbers)], Fraction(0))


def order_worth(house, order, worths):
    return plain_worth(house, order_numbers(house, order).values(), worths)


def is_plain_roof(house, worths, told):
    """Whether weighted lots, weights above 0, are a roof, by the definition."""
    for pair in house.pairs():
        if sum([value(weight) for lot, weight in told if pair in lot], Fraction(0)) < value(worths.get(pair, 0)):
            return False
    return True


def bound_of(house, told):
    return sum([plain_coming(house, lot) * value(weight) for lot, weight in told], Fraction(0))


class Worths(Case):
    def calls(self):
        """All functions with worths, with what stands before and behind them."""
        house = document_house()
        wish = Wish(house, {LOW: HALF})
        return [(worth_of, (wish,), ()), (best, (house,), ()), (roof, (house,), ()), (is_roof, (house,), (None, None)),
                (lost, (wish,), ())]

    def test_wrong_houses_and_wishes(self):
        for call in (best, roof):
            for wrong in NO_HOUSES:
                self.refused(InvalidHouse, wrong, call, wrong, None)
        for wrong in NO_HOUSES:
            self.refused(InvalidHouse, wrong, is_roof, wrong, None, None, None)
            self.refused(InvalidHouse, wrong, worths_for, wrong, None)
        for call in (worth_of, lost):
            for wrong in [*any_values(), {LOW: 1}, Rule(document_house(), {})]:
                with self.subTest(call=call, wrong=wrong):
                    self.refused(InvalidWish, wrong, call, wrong, None)

    def test_wrong_worths(self):
        for call, before, behind in self.calls():
            for wrong in NO_DICTS:
                with self.subTest(call=call, wrong=wrong):
                    self.refused(InvalidWorths, wrong, call, *before, wrong, *behind)
            for wrong in WRONG_KEYS:
                with self.subTest(call=call, wrong=wrong):
                    self.refused(UnknownPair, wrong, call, *before, {LOW: 1, wrong: None, HIGH: None}, *behind)
            for wrong in NO_NUMBERS:
                with self.subTest(call=call, wrong=wrong):
                    self.refused(InvalidNumber, wrong, call, *before, {LOW: -1, HIGH: wrong, "zed": 1}, *behind)

    def test_worth_of(self):
        draw = random.Random(91)
        for house in small_houses(92, 30):
            wish, worths = random_wish(draw, house), random_worths(draw, house)
            told = worth_of(wish=wish, worths=worths)
            self.assertIs(type(told), Ratio)
            self.assertEqual(fraction(told), plain_worth(house, numbers_of(wish), worths))
        self.assertIs(type(worth_of(Wish(document_house(), {}), {})), Ratio)

    def test_arguments_stay(self):
        worths = {HIGH: -1, BOB: 2, LOW: Ratio(1, 3)}
        house = document_house()
        for call in (best, roof):
            call(house, worths)
        is_roof(house, worths, [([BOB], 2)], 3)
        lost(Wish(house, {}), worths)
        self.assertEqual(list(worths.items()), [(HIGH, -1), (BOB, 2), (LOW, Ratio(1, 3))])


class Best(Case):
    def test_document_example(self):
        house = document_house()
        worths = {LOW: 1, BOB: 2, HIGH: -1}
        self.assertEqual(
            [best(house, worths)[0].text(), best(house, worths)[1],
             [(lot, weight.text()) for lot, weight in roof(house, worths)]],
            ["5/4", [BOB, LOW], [([BOB], "1"), ([LOW, BOB], "1")]])

    def test_order_and_worth(self):
        draw = random.Random(93)
        for house in small_houses(94, 40):
            worths = random_worths(draw, house)
            told = best(house=house, worths=worths)
            self.assertIs(type(told), tuple)
            worth, order = told
            self.assertIs(type(worth), Ratio)
            places = {pair: place for place, pair in enumerate(house.pairs())}
            good = [pair for pair in house.pairs() if value(worths.get(pair, 0)) > 0]
            self.assertEqual(order, sorted(good, key=lambda pair: (-value(worths[pair]), places[pair])))
            self.assertEqual(fraction(worth), order_worth(house, order, worths))

    def test_no_order_has_a_greater_worth(self):
        draw = random.Random(95)
        for house in small_houses(96, 25, 4):
            worths = random_worths(draw, house)
            worth, _ = best(house, worths)
            self.assertEqual(fraction(worth), max(order_worth(house, order, worths) for order in every_order(house)))

    def test_no_worths_above_0(self):
        for worths in [{}, {LOW: 0}, {LOW: -1, BOB: Ratio(-1, 2), HIGH: 0}]:
            self.assertEqual(best(document_house(), worths), (0, []))
            self.assertIs(type(best(document_house(), worths)[0]), Ratio)
            self.assertEqual(roof(document_house(), worths), [])

    def test_near_worths(self):
        house = document_house()
        self.assertEqual(best(house, {LOW: 1, BOB: Ratio(1) + TINY})[1], [BOB, LOW])
        self.assertEqual(best(house, {BOB: 1, LOW: Ratio(1)})[1], [LOW, BOB])


class Roofs(Case):
    def test_bound_is_the_worth(self):
        draw = random.Random(97)
        for house in [*small_houses(98, 40), large_house(), long_house(draw)]:
            worths = random_worths(draw, house)
            told = roof(house=house, worths=worths)
            self.assertIs(type(told), list)
            worth, _ = best(house, worths)
            before = []
            for part in told:
                self.assertIs(type(part), tuple)
                lot, weight = part
                self.assertIs(type(weight), Ratio)
                self.assertTrue(Ratio(0).below(weight))
                self.assertIs(type(lot), list)
                self.assertEqual(lot, lot_of(house, lot))
                self.assertTrue(set(before) <= set(lot) and lot)
                before = lot
            self.assertTrue(is_plain_roof(house, worths, told))
            self.assertEqual(bound_of(house, told), fraction(worth))
            self.assertIs(is_roof(house=house, worths=worths, told=told, most=worth), True)
            self.assertIs(is_roof(house, worths, told, worth + 1), True)
            self.assertIs(is_roof(house, worths, told, worth - TINY), False)
            self.assertIs(is_roof(house, worths, tuple([(tuple(lot[::-1]), weight) for lot, weight in told[::-1]]),
                                  worth), True)

    def test_judging(self):
        house = document_house()
        worths = {LOW: 1, BOB: 2, HIGH: -1}
        for told, bound in [([([BOB], 1), ([LOW, BOB], 1)], Ratio(5, 4)), ([([LOW, BOB], 2)], Ratio(3, 2)),
                            ([([BOB], 1), ([BOB], 1), ([LOW], 1)], Ratio(3, 2)), ([([BOB, HIGH, LOW], 9)], Ratio(9)),
                            ((((BOB,), 2), ((LOW,), 1)), Ratio(3, 2))]:
            self.assertIs(is_roof(house, worths, told, bound), True)
            self.assertIs(is_roof(house, worths, told, bound - TINY), False)
        for told in [
            [], [([BOB], 1)], [([BOB], 1), ([LOW, BOB], Ratio(1) - TINY)], [([BOB], Ratio(1) - TINY), ([LOW, BOB], 1)],
            [([BOB], 2), ([LOW], 1), ([], 1)], [([BOB], 2), ([LOW], 1), ([HIGH], 0)],
            [([BOB], 2), ([LOW], 2), ([LOW], -1)], [[[BOB], 2], [[LOW], 1]], [(2, [BOB]), (1, [LOW])],
            [([BOB], 2), ([LOW], True)], [([BOB], 2), ([LOW, LOW], 1)], [([BOB], 2), ([LOW, "zed"], 1)],
            [([BOB], 2), (LOW, 1)], [([BOB], 2), ([LOW], 1, 1)], [([BOB], 2), ([LOW], 1), None], {(BOB,): 2, (LOW,): 1},
            ([LOW, BOB], 2), [([LOW, BOB], "2")], [({LOW: 1, BOB: 1}, 2)], *any_values(),
        ]:
            with self.subTest(told):
                self.assertIs(is_roof(house, worths, told, 100), False)

    def test_empty_roof(self):
        house = document_house()
        for told in ([], ()):
            self.assertIs(is_roof(house, {LOW: -1, BOB: 0}, told, 0), True)
            self.assertIs(is_roof(house, {}, told, 9), True)
            self.assertIs(is_roof(house, {}, told, -TINY), False)
            self.assertIs(is_roof(house, {LOW: TINY}, told, 9), False)
        self.assertIs(is_roof(house, {}, [([LOW], TINY)], TINY), True)

    def test_random_roofs(self):
        draw = random.Random(99)
        seen = {True: 0, False: 0}
        for house in small_houses(90, 40):
            for _ in range(5):
                worths = random_worths(draw, house)
                told = [(draw.sample(house.pairs(), draw.randint(1, len(house))), Ratio(draw.randint(1, 6), 2))
                        for _ in range(draw.randint(0, 5))]
                most = ratio(bound_of(house, told) + draw.choice([0, 0, Fraction(-1, 9)]))
                expected = is_plain_roof(house, worths, told) and bound_of(house, told) <= fraction(most)
                seen[expected] += 1
                self.assertIs(is_roof(house, worths, told, most), expected)
        self.assertGreater(min(seen.values()), 20)

    def test_wrong_most(self):
        for wrong in NO_NUMBERS:
            self.refused(InvalidNumber, wrong, is_roof, document_house(), {LOW: 1}, None, wrong)

    def test_new_lists(self):
        house, worths = document_house(), {LOW: 1, BOB: 2}
        told = roof(house, worths)
        told[0][0].append("changed")
        told.clear()
        best(house, worths)[1].clear()
        self.assertEqual(roof(house, worths), [([BOB], 1), ([LOW, BOB], 1)])
        self.assertEqual(best(house, worths)[1], [BOB, LOW])


class Losses(Case):
    def test_by_definition(self):
        draw = random.Random(89)
        for house in small_houses(88, 30):
            worths = random_worths(draw, house)
            wish = possible_wish(draw, house, draw.choice([1, 3]))
            told = lost(wish=wish, worths=worths)
            self.assertIs(type(told), Ratio)
            self.assertFalse(told.below(0))
            self.assertEqual(told, best(house, worths)[0] - worth_of(wish, worths))
            self.assertEqual(lost(order_wish(house, best(house, worths)[1]), worths), 0)

    def test_impossible(self):
        draw = random.Random(87)
        seen = 0
        for house in small_houses(86, 20):
            wish = random_wish(draw, house).scaled(2)
            if not plain_possible(wish):
                seen += 1
                lot = self.caught(Impossible, lost, wish, random_worths(draw, house)).lot
                self.assertEqual(lot, lot_of(house, lot))
                self.assertGreater(excesses(wish)[tuple(lot)], 0)
                self.refused(InvalidWorths, None, lost, wish, None)
        self.assertGreater(seen, 10)


class WorthsForOrders(Case):
    def test_worths(self):
        draw = random.Random(85)
        for house in [*small_houses(84, 30), large_house()]:
            order = random_order(draw, house)
            told = worths_for(house=house, order=order)
            self.assertEqual(list(told), house.pairs())
            self.assertEqual({type(worth) for worth in told.values()}, {Ratio})
            for pair, worth in told.items():
                self.assertEqual(worth, len(order) - order.index(pair) if pair in order else -1)
            self.assertEqual(told, worths_for(house, tuple(order)))

    def test_only_wish_with_the_greatest_worth(self):
        draw = random.Random(83)
        for house in small_houses(82, 20, 4):
            order = random_order(draw, house)
            worths = worths_for(house, order)
            worth, found = best(house, worths)
            self.assertEqual(found, order)
            for corner in corners(house):
                self.assertEqual(worth_of(corner, worths) == worth, corner == order_wish(house, order))

    def test_wrong_orders(self):
        for wrong in no_orders():
            with self.subTest(wrong):
                self.refused(InvalidOrder, wrong, worths_for, document_house(), wrong)

    def test_largest_houses(self):
        draw = random.Random(81)
        for house in [large_house(), long_house(draw)]:
            worths = {pair: long_share(draw) for pair in house.pairs()}
            worth, order = best(house, worths)
            self.assertTrue(is_order(house, order))
            self.assertTrue(is_roof(house, worths, roof(house, worths), worth))
            self.assertEqual(lost(order_wish(house, order), worths), 0)

    def test_same_for_equal_arguments(self):
        house = tied_house()
        worths = {("ann", "a"): 1, ("bob", "a"): Ratio(2, 2)}
        turned = {pair: worths[pair] for pair in reversed(list(worths))}
        again = House.tied([("ann", ["a"]), ("bob", ["a"])], house.days()[::-1])
        self.assertEqual(best(house, worths), best(again, turned))
        self.assertEqual(roof(house, worths), roof(again, turned))


if __name__ == "__main__":
    unittest.main()
