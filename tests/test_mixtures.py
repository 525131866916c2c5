"""Promises 6, 11 and 81 to 84: mixtures of orders."""

import random
import unittest
from fractions import Fraction

from tests.checks import Case, any_values, half_house, large_house, tied_house
from tests.samples import (
    document_house, eleven_house, every_order, excesses, fraction, long_share, numbers_of, order_numbers,
    plain_possible, possible_wish, random_order, random_wish, small_houses, sure_house, ten_house, wish_with,
)
from tests.test_lots import NO_HOUSES
from tests.test_rules import no_orders
from winoften.errors import Impossible, InvalidHouse, InvalidOrder, InvalidWish, TooMany
from winoften.even import even
from winoften.houses import House
from winoften.lots import lot_of
from winoften.mixtures import corner_order, corners, is_mixing, mixing, same_orders
from winoften.possible import factor
from winoften.ratios import Ratio
from winoften.rules import Rule, is_order, order_wish
from winoften.wishes import Wish

HALF = Ratio(1, 2)
LOW, HIGH, BOB = ("ann", "low"), ("ann", "high"), ("bob", "low")
TINY = Ratio(1, 10 ** 50)


def mixed_numbers(house, told):
    """The numbers of a mixing, by the definition."""
    mixed = {pair: Fraction(0) for pair in house.pairs()}
    for share, order in told:
        for pair, number in order_numbers(house, order).items():
            mixed[pair] += fraction(share) * number
    return list(mixed.values())


def possible_wishes(seed, many, most=6):
    draw = random.Random(seed)
    found = []
    for house in small_houses(seed + 1, many, most):
        found += [Wish(house, {}), even(house)]
        found += [possible_wish(draw, house, orders) for orders in (1, 2, 3, 6)]
        found += [possible_wish(draw, house, 3).scaled(Ratio(draw.randint(0, 9), 10))]
        wish = random_wish(draw, house)
        if plain_possible(wish):
            found.append(wish)
    return found


def large_wishes(seed):
    """Possible wishes for houses with ten pairs, with long numbers too."""
    draw = random.Random(seed)
    plain = ten_house()
    long = House([(name, [(kind, long_share(draw, 4)) for kind in "abc"[:many]])
                  for name, many in (("w", 3), ("x", 3), ("y", 2), ("z", 2))])
    names = [("w", ["a", "b"]), ("x", ["a", "b"]), ("y", ["a", "b", "c"]), ("z", ["a", "b", "c"])]
    days = {(draw.choice(["a", "b", None]), draw.choice(["a", "b"]), draw.choice("abc"), draw.choice("abc"))
            for _ in range(60)}
    tied = House.tied(names, [(day, Ratio(1, len(days))) for day in sorted(days, key=str)])
    found = []
    for house in (plain, long, tied):
        wish = Wish(house, {pair: long_share(draw) for pair in house.pairs()})
        found += [wish.scaled(factor(wish)), wish.scaled(factor(wish) * Ratio(1, 3)), even(house),
                  possible_wish(draw, house, 12), possible_wish(draw, house, 1)]
    return found


class Mixings(Case):
    def checked(self, wish):
        """The mixing of a possible wish, which is checked by its definition."""
        told = mixing(wish=wish)
        self.assertIs(type(told), list)
        self.assertLessEqual(len(told), len(wish.house) + 1)
        for part in told:
            self.assertIs(type(part), tuple)
            share, order = part
            self.assertIs(type(share), Ratio)
            self.assertTrue(Ratio(0).below(share))
            self.assertIs(type(order), list)
            self.assertTrue(is_order(wish.house, order))
        orders = [tuple(order) for _, order in told]
        self.assertEqual(len(set(orders)), len(orders))
        self.assertEqual(sum([fraction(share) for share, _ in told]), 1)
        self.assertEqual(mixed_numbers(wish.house, told), numbers_of(wish))
        self.assertIs(is_mixing(wish=wish, told=told), True)
        return told

    def test_document_example(self):
        house = document_house()
        half = Wish(house, {HIGH: HALF})
        self.assertEqual(
            [len(mixing(half)), is_mixing(half, [(HALF, []), (HALF, [HIGH])]), corner_order(half), len(corners(house))],
            [2, True, None, 12])
        self.assertEqual([same_orders(house, [LOW, HIGH], [HIGH, LOW]), is_mixing(half, [(1, [HIGH])])], [True, False])

    def test_small_houses(self):
        for wish in possible_wishes(81, 50):
            self.checked(wish)

    def test_ten_pairs_and_long_numbers(self):
        for wish in large_wishes(83):
            self.checked(wish)

    def test_corners_need_one_order(self):
        draw = random.Random(85)
        for house in small_houses(86, 20):
            self.assertEqual(len(self.checked(possible_wish(draw, house, 1))), 1)

    def test_wrong_wish(self):
        for call, rest in [(mixing, ()), (is_mixing, (None,)), (corner_order, ())]:
            for wrong in [*any_values(), {LOW: 1}, Rule(document_house(), {})]:
                with self.subTest(call=call, wrong=wrong):
                    self.refused(InvalidWish, wrong, call, wrong, *rest)

    def test_too_many(self):
        for house, many in [(eleven_house(), 11), (large_house(), 16)]:
            for wish in [Wish(house, {}), Wish(house, {house.pairs()[0]: 9})]:
                self.refused(TooMany, many, mixing, wish)
                self.refused(TooMany, many, corner_order, wish)

    def test_impossible(self):
        draw = random.Random(87)
        seen = 0
        for house in small_houses(88, 20):
            wish = random_wish(draw, house).scaled(2)
            if not plain_possible(wish):
                seen += 1
                lot = self.caught(Impossible, mixing, wish).lot
                self.assertEqual(lot, lot_of(house, lot))
                self.assertGreater(excesses(wish)[tuple(lot)], 0)
        self.assertGreater(seen, 10)

    def test_same_for_equal_arguments(self):
        house = document_house()
        tied = House.tied([("ann", ["low", "high"]), ("bob", ["low"])], house.days()[::-1])
        numbers = {LOW: Ratio(1, 3), HIGH: Ratio(1, 4), BOB: Ratio(1, 5)}
        turned = {pair: numbers[pair] for pair in reversed(list(numbers))}
        self.assertEqual(mixing(Wish(house, numbers)), mixing(Wish(tied, turned)))

    def test_new_lists(self):
        wish = Wish(document_house(), {HIGH: HALF, BOB: HALF})
        told = mixing(wish)
        before = [(share, list(order)) for share, order in told]
        for _, order in told:
            order.append("changed")
        told.clear()
        self.assertEqual(mixing(wish), before)


class Judging(Case):
    def test_true(self):
        house = document_house()
        quarter = Ratio(1, 4)
        wish = Wish(house, {LOW: quarter, HIGH: quarter, BOB: HALF})
        for told in [
            [(HALF, [BOB, LOW, HIGH]), (HALF, [])],
            ((HALF, (BOB, LOW, HIGH)), (HALF, ())),
            [(HALF, []), (quarter, [BOB, LOW, HIGH]), (quarter, [BOB, HIGH, LOW])],
            [(quarter, [BOB, LOW]), (quarter, [BOB, HIGH]), (HALF, [])],
        ]:
            with self.subTest(told):
                self.assertIs(is_mixing(wish, told), mixed_numbers(house, told) == numbers_of(wish))
        self.assertIs(is_mixing(wish, [(HALF, [BOB, LOW, HIGH]), (HALF, [])]), True)

    def test_unlike_orders_with_equal_numbers(self):
        house = document_house()
        wish = order_wish(house, [LOW, HIGH])
        self.assertIs(is_mixing(wish, [(HALF, [LOW, HIGH]), (HALF, [HIGH, LOW])]), True)
        self.assertIs(is_mixing(wish, [(HALF, [LOW, HIGH]), (HALF, [LOW, HIGH])]), False)
        self.assertIs(is_mixing(wish, [(HALF, [LOW, HIGH]), (HALF, (LOW, HIGH))]), False)
        self.assertIs(is_mixing(wish, [(1, (HIGH, LOW))]), True)
        self.assertIs(is_mixing(wish, [(Ratio(1, 3), [LOW, HIGH]), (Ratio(2, 3), [LOW, HIGH, BOB])]), True)

    def test_near_misses(self):
        house = document_house()
        wish = Wish(house, {HIGH: HALF})
        self.assertIs(is_mixing(wish, [(HALF, [HIGH]), (HALF, [])]), True)
        for told in [
            [], (), [(HALF, [HIGH])], [(HALF, [HIGH]), (HALF, []), (0, [LOW])], [(HALF, [HIGH]), (HALF + TINY, [])],
            [(HALF + TINY, [HIGH]), (HALF - TINY, [])], [(HALF, [HIGH]), (HALF, [BOB])], [(1, [HIGH])], [(1, [])],
            [[HALF, [HIGH]], [HALF, []]], [(HALF, [HIGH]), (HALF, None)], [(HALF, [HIGH, HIGH]), (HALF, [])],
            [(HALF, [HIGH]), (HALF, ["zed"])], [(HALF, [HIGH], 1), (HALF, [])], [(HALF,), (HALF, [])],
            [([HIGH], HALF), ([], HALF)], [(Ratio(3, 2), [HIGH]), (Ratio(-1, 2), [])], [(True, [HIGH])],
            [(HALF, [HIGH]), (HALF, []), None], {HALF.top: [HIGH]}, (HALF, [HIGH]), mixing(wish)[0], str(wish), wish,
            [(HALF, [list(HIGH)]), (HALF, [])], *any_values(),
        ]:
            with self.subTest(told):
                self.assertIs(is_mixing(wish, told), False)
        self.assertIs(is_mixing(Wish(house, {HIGH: 2}), [(1, [HIGH])]), False)

    def test_random_mixings(self):
        draw = random.Random(89)
        seen = {True: 0, False: 0}
        for house in [*small_houses(90, 30), large_house()]:
            orders = []
            for _ in range(draw.randint(1, 40)):
                order = random_order(draw, house)
                if order not in orders:
                    orders.append(order)
            weights = [draw.randint(1, 5) for _ in orders]
            told = [(Ratio(weight, sum(weights)), order) for weight, order in zip(weights, orders)]
            wish = wish_with(house, dict(zip(house.pairs(), mixed_numbers(house, told))))
            self.assertIs(is_mixing(wish, told), True)
            share, order = told[-1]
            told[-1] = (share, order[::-1])
            expected = mixed_numbers(house, told) == numbers_of(wish) and order[::-1] not in orders[:-1]
            seen[expected] += 1
            self.assertIs(is_mixing(wish, told), expected)
        self.assertGreater(min(seen.values()), 5)


class Corners(Case):
    def test_all_corners(self):
        for house in small_houses(91, 30, 5):
            if len(house) <= 4:
                expected = {tuple(order_numbers(house, order).values()) for order in every_order(house)}
                told = corners(house=house)
                self.assertIs(type(told), list)
                self.assertEqual({type(wish) for wish in told}, {Wish})
                self.assertTrue(all(wish.house == house for wish in told))
                self.assertEqual(sorted(tuple(numbers_of(wish)) for wish in told), sorted(expected))

    def test_five_pairs(self):
        house = House([("w", [("a", HALF), ("b", HALF)]), ("x", [("a", HALF)]), ("y", [("a", 1)]), ("z", [("a", HALF)])])
        expected = {tuple(order_numbers(house, order).values()) for order in every_order(house)}
        self.assertEqual(sorted(tuple(numbers_of(wish)) for wish in corners(house)), sorted(expected))

    def test_corner_orders(self):
        for house in small_houses(93, 25, 4):
            for wish in corners(house):
                order = corner_order(wish=wish)
                self.assertTrue(is_order(house, order))
                self.assertEqual(sorted(order), sorted(pair for pair, number in wish.numbers().items() if number != 0))
                self.assertTrue(order_wish(house, order) == wish)

    def test_no_corners(self):
        draw = random.Random(95)
        seen = 0
        for house in small_houses(96, 40, 4):
            found = corners(house)
            for wish in [draw.choice(found).mixed(draw.choice(found), HALF), random_wish(draw, house),
                         draw.choice(found).scaled(Ratio(draw.choice([99, 101]), 100)), even(house)]:
                if wish in found:
                    self.assertTrue(order_wish(house, corner_order(wish)) == wish)
                else:
                    seen += 1
                    self.assertIsNone(corner_order(wish))
        self.assertGreater(seen, 50)

    def test_impossible_wishes_are_no_corners(self):
        house = document_house()
        for numbers in [{LOW: 2}, {LOW: 1, BOB: 1}, {LOW: Ratio(1) + TINY}, {LOW: 1, HIGH: 1, BOB: TINY}]:
            self.assertIsNone(corner_order(Wish(house, numbers)))

    def test_ten_pairs(self):
        draw = random.Random(97)
        house = ten_house()
        for _ in range(10):
            wish = order_wish(house, draw.sample(house.pairs(), 7))
            self.assertTrue(order_wish(house, corner_order(wish)) == wish)
        self.assertIsNone(corner_order(even(house)))

    def test_wrong_houses(self):
        for wrong in NO_HOUSES:
            self.refused(InvalidHouse, wrong, corners, wrong)
            self.refused(InvalidHouse, wrong, same_orders, wrong, None, None)
        six = House([("w", [("a", HALF), ("b", HALF)]), ("x", [("a", HALF), ("b", HALF)]),
                     ("y", [("a", HALF), ("b", HALF)])])
        self.refused(TooMany, 6, corners, six)
        self.refused(TooMany, 16, corners, large_house())

    def test_new_lists(self):
        house = tied_house()
        corners(house).clear()
        self.assertEqual(len(corners(house)), 4)
        order = corner_order(order_wish(house, house.pairs()))
        order.clear()
        self.assertEqual(len(corner_order(order_wish(house, house.pairs()))), 2)


class SameOrders(Case):
    def test_by_definition(self):
        draw = random.Random(99)
        seen = {True: 0, False: 0}
        for house in small_houses(98, 30, 4):
            for _ in range(10):
                one = random_order(draw, house)
                other = random_order(draw, house) if draw.random() < 0.4 else draw.sample(one, len(one))
                expected = order_numbers(house, one) == order_numbers(house, other)
                seen[expected] += 1
                self.assertIs(same_orders(house=house, one=one, other=tuple(other)), expected)
        self.assertGreater(min(seen.values()), 50)

    def test_edges(self):
        self.assertIs(same_orders(sure_house(), [("x", "a")], [("x", "a"), ("w", "a")]), True)
        self.assertIs(same_orders(half_house(), [LOW], [LOW, HIGH]), False)
        self.assertIs(same_orders(half_house(), [], []), True)

    def test_wrong_orders(self):
        for wrong in no_orders():
            with self.subTest(wrong):
                self.refused(InvalidOrder, wrong, same_orders, document_house(), wrong, None)
                self.refused(InvalidOrder, wrong, same_orders, document_house(), [LOW], wrong)


if __name__ == "__main__":
    unittest.main()
