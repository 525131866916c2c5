"""Promises 131 to 135: payments."""

import itertools
import random
import unittest
from fractions import Fraction

from tests.checks import Case, any_values, half_house, large_house, tied_house
from tests.samples import (
    document_house, every_order, fraction, lean_houses, long_house, long_share, numbers_of, order_numbers,
    possible_wish, random_wish, small_houses, wish_with,
)
from tests.test_best import NO_NUMBERS, bound_of, is_plain_roof, value
from tests.test_lots import NO_HOUSES
from tests.test_wishes import NO_AMOUNTS, NO_DICTS, WRONG_KEYS
from winoften.best import best, roof
from winoften.errors import (
    InvalidHouse, InvalidNumber, InvalidWish, InvalidWorths, NotIndependent, UnknownPair,
)
from winoften.houses import House
from winoften.payments import (
    are_fair, best_income, evened, fall, greatest_payments, income, lies,
)
from winoften.ratios import Ratio
from winoften.rules import order_wish
from winoften.wishes import Wish

HALF = Ratio(1, 2)
LOW, HIGH, BOB = ("ann", "low"), ("ann", "high"), ("bob", "low")
TINY = Ratio(1, 10 ** 50)


def free_houses(seed, many, most=6):
    """Independent houses with few pairs."""
    return [house for house in small_houses(seed, many, most) if house.independent]


def random_values(draw, house):
    """Values for all or nearly all pairs, in any order; those of one bidder differ, one of them may be left out."""
    told = {}
    for name in house.names():
        amounts = draw.sample([0, 1, 2, 3, Ratio(1, 2), Ratio(5, 3), Ratio(7, 2), 10], len(house.kinds(name)))
        for kind, amount in zip(house.kinds(name), amounts):
            if amount != 0 or draw.random() < 0.5:
                told[(name, kind)] = amount
    return {pair: told[pair] for pair in draw.sample(list(told), len(told))}


def rising_wish(draw, house, values):
    """A wish whose numbers do not fall as the values rise."""
    numbers = {}
    for name in house.names():
        pairs = ascending(house, values, name)
        tops = sorted([draw.randint(0, 5) for _ in pairs])
        numbers.update({pair: Fraction(top, 5) for pair, top in zip(pairs, tops)})
    return wish_with(house, {pair: numbers[pair] for pair in house.pairs()})


def ascending(house, values, name):
    return sorted([pair for pair in house.pairs() if pair[0] == name], key=lambda pair: value(values.get(pair, 0)))


def gain_of(wish, values, payments, own, told):
    """What a bidder gains by posing, by the definition."""
    worth = value(values.get(own, 0)) * fraction(wish.number(told))
    return worth - value(payments.get(told, 0))


def plain_lies(wish, values, payments):
    found = []
    for own, told in itertools.product(wish.house.pairs(), repeat=2):
        if own[0] == told[0] and gain_of(wish, values, payments, own, told) > gain_of(wish, values, payments, own, own):
            found.append((own, told[1]))
    return found


def plain_fair(wish, values, payments):
    honest = [gain_of(wish, values, payments, pair, pair) for pair in wish.house.pairs()]
    return not plain_lies(wish, values, payments) and min(honest) >= 0


def plain_gains(house, values, name):
    """The pairs of a bidder by ascending values with their chances and plain gains, by [134]."""
    pairs = ascending(house, values, name)
    found = []
    for place, pair in enumerate(pairs):
        own = value(values.get(pair, 0))
        above = pairs[place + 1:]
        gain = own
        if above:
            greater = sum([fraction(house.chance(other)) for other in above])
            gain = own - (value(values.get(above[0], 0)) - own) * greater / fraction(house.chance(pair))
        found.append((pair, fraction(house.chance(pair)), gain))
    return found


def mean_of(group):
    return sum([chance * gain for _, chance, gain in group]) / sum([chance for _, chance, _ in group])


def plain_evened(house, values):
    """The evened gains, by going through all ways to cut the kinds into groups."""
    found = {}
    for name in house.names():
        gains = plain_gains(house, values, name)
        fitting = set()
        for cuts in itertools.product([False, True], repeat=len(gains) - 1):
            groups = [[gains[0]]]
            for cut, gain in zip(cuts, gains[1:]):
                if cut:
                    groups.append([gain])
                else:
                    groups[-1].append(gain)
            means = [mean_of(group) for group in groups]
            if all(low < high for low, high in zip(means, means[1:])) and all(
                    mean_of(group[:many]) >= mean for group, mean in zip(groups, means)
                    for many in range(1, len(group) + 1)):
                fitting.add(tuple([(pair, mean) for group, mean in zip(groups, means) for pair, _, _ in group]))
        [one] = fitting
        found.update(dict(one))
    return {pair: found[pair] for pair in house.pairs()}


class WrongArguments(Case):
    def calls(self):
        """All functions with values: the call, what stands before them, what stands behind them."""
        house = document_house()
        wish = Wish(house, {LOW: 1})
        return [(fall, wish, ()), (are_fair, wish, (None,)), (lies, wish, (None,)), (greatest_payments, wish, ()),
                (evened, house, ()), (best_income, house, ())]

    def test_wrong_houses_and_wishes(self):
        for call, first, behind in self.calls():
            kind = InvalidHouse if isinstance(first, House) else InvalidWish
            wrong_ones = NO_HOUSES if kind is InvalidHouse else [*any_values(), document_house()]
            for wrong in wrong_ones:
                self.refused(kind, wrong, call, wrong, None, *behind)
        for wrong in NO_HOUSES:
            self.refused(InvalidHouse, wrong, income, wrong, None)

    def test_wrong_values(self):
        for call, first, behind in self.calls():
            for wrong in NO_DICTS:
                self.refused(InvalidWorths, wrong, call, first, wrong, *behind)
            for wrong in WRONG_KEYS:
                self.refused(UnknownPair, wrong, call, first, {LOW: 1, HIGH: 1, wrong: None}, *behind)
            for wrong in NO_AMOUNTS:
                self.refused(InvalidNumber, wrong, call, first, {LOW: 1, HIGH: wrong, "zed": 1}, *behind)
            for equal in [{}, {LOW: 0}, {BOB: 3}, {LOW: 1, HIGH: Ratio(2, 2)}, {HIGH: Ratio(0), BOB: 1}]:
                self.refused(InvalidWorths, equal, call, first, equal, *behind)

    def test_houses_that_are_not_independent(self):
        house = tied_house()
        wish = Wish(house, {("ann", "a"): 1})
        for call, first in [(fall, wish), (greatest_payments, wish), (evened, house), (best_income, house)]:
            self.assertEqual(vars(self.caught(NotIndependent, call, first, {})), {})
            self.refused(InvalidNumber, -1, call, first, {("ann", "a"): -1})
        for call in (lies, are_fair):
            self.caught(NotIndependent, call, wish, {("ann", "a"): 1}, None)
        three = House.tied([("x", ["a", "b"]), ("y", ["a"])],
                           [(("a", None), HALF), (("b", "a"), Ratio(1, 4)), ((None, "a"), Ratio(1, 4))])
        values = {("x", "a"): 1, ("x", "b"): 1}
        self.refused(InvalidWorths, values, evened, three, values)
        self.caught(NotIndependent, evened, three, {("x", "a"): 1})
        made = House.tied([("ann", ["low", "high"]), ("bob", ["low"])], document_house().days())
        self.assertIsNone(fall(Wish(made, {}), {HIGH: 1}))

    def test_wrong_payments(self):
        house = document_house()
        wish = Wish(house, {})
        for call, before in [(are_fair, (wish, {LOW: 1})), (lies, (wish, {LOW: 1})), (income, (house,))]:
            for wrong in NO_DICTS:
                self.refused(InvalidWorths, wrong, call, *before, wrong)
            for wrong in WRONG_KEYS:
                self.refused(UnknownPair, wrong, call, *before, {LOW: -1, wrong: None})
            for wrong in NO_NUMBERS:
                self.refused(InvalidNumber, wrong, call, *before, {LOW: -1, HIGH: wrong, "zed": 1})

    def test_arguments_stay(self):
        values, payments = {HIGH: 3, BOB: 1, LOW: 2}, {BOB: HALF}
        wish = Wish(document_house(), {HIGH: 1})
        lies(wish, values, payments)
        are_fair(wish, values, payments)
        greatest_payments(wish, values)
        best_income(document_house(), values)
        self.assertEqual((list(values.items()), payments), ([(HIGH, 3), (BOB, 1), (LOW, 2)], {BOB: HALF}))


class Fairness(Case):
    def test_document_example(self):
        house = document_house()
        values = {LOW: 2, HIGH: 3, BOB: 2}
        wish = order_wish(house, [HIGH, BOB, LOW])
        paid = greatest_payments(wish, values)
        self.assertEqual(
            [[amount.text() for amount in paid.values()], are_fair(wish, values, paid), income(house, paid).text(),
             fall(wish, values)], [["1", "5/2", "1"], True, "9/4", None])
        self.assertEqual(
            [[gain.text() for gain in evened(house, values).values()], best_income(house, values)[0].text(),
             best_income(house, values)[1][0]], [["1", "3", "2"], "9/4", HIGH])

    def test_lies_and_fairness_by_all_poses(self):
        draw = random.Random(131)
        seen = {True: 0, False: 0}
        for house in free_houses(132, 60):
            values = random_values(draw, house)
            for wish in (random_wish(draw, house), rising_wish(draw, house, values)):
                paid = {pair: draw.choice([0, -1, 1, Ratio(1, 2), Ratio(-1, 3)])
                        for pair in draw.sample(house.pairs(), draw.randint(0, len(house)))}
                some = [paid]
                if fall(wish, values) is None:
                    greatest = greatest_payments(wish, values)
                    pair = draw.choice(house.pairs())
                    some += [greatest, {**greatest, pair: greatest[pair] - draw.choice([TINY, 1, 2])}]
                for payments in some:
                    told = lies(wish=wish, values=values, payments=payments)
                    self.assertEqual(told, plain_lies(wish, values, payments))
                    fair = are_fair(wish=wish, values=values, payments=payments)
                    self.assertIs(fair, plain_fair(wish, values, payments))
                    seen[fair] += 1
        self.assertGreater(min(seen.values()), 30)

    def test_falls(self):
        draw = random.Random(133)
        seen = 0
        for house in free_houses(134, 150):
            values = random_values(draw, house)
            for wish in (random_wish(draw, house), rising_wish(draw, house, values)):
                expected = []
                for name in house.names():
                    pairs = ascending(house, values, name)
                    expected += [(low, high) for low, high in zip(pairs, pairs[1:])
                                 if fraction(wish.number(high)) < fraction(wish.number(low))]
                told = fall(wish=wish, values=values)
                self.assertEqual(told, expected[0] if expected else None)
                if expected:
                    seen += 1
                    self.assertIs(type(told), tuple)
                    self.refused(InvalidWish, wish, greatest_payments, wish, values)
        self.assertGreater(seen, 20)

    def test_fair_payments_exist_only_without_a_fall(self):
        draw = random.Random(135)
        amounts = [Ratio(top, 4) for top in range(-4, 13)]
        for house in [House([("x", [("a", HALF), ("b", HALF)])]), House([("x", [("a", HALF), ("b", Ratio(1, 3))])])]:
            for _ in range(12):
                wish = Wish(house, {pair: Ratio(draw.randint(0, 4), 4) for pair in house.pairs()})
                values = {pair: number for pair, number in zip(house.pairs(), draw.sample([0, 1, 2, 3], 2))}
                fair = [one for one in itertools.product(amounts, repeat=2)
                        if are_fair(wish, values, dict(zip(house.pairs(), one)))]
                self.assertEqual(bool(fair), fall(wish, values) is None)
                if fair:
                    greatest = tuple(greatest_payments(wish, values).values())
                    for place in range(2):
                        self.assertEqual(fraction(greatest[place]), max([fraction(one[place]) for one in fair]))


class GreatestPayments(Case):
    def test_by_definition(self):
        draw = random.Random(136)
        for house in free_houses(137, 60):
            values = random_values(draw, house)
            wish = rising_wish(draw, house, values)
            told = greatest_payments(wish=wish, values=values)
            self.assertEqual(list(told), house.pairs())
            self.assertEqual({type(payment) for payment in told.values()}, {Ratio})
            self.assertIs(are_fair(wish, values, told), True)
            for name in house.names():
                paid = number = Fraction(0)
                for pair in ascending(house, values, name):
                    paid += value(values.get(pair, 0)) * (fraction(wish.number(pair)) - number)
                    number = fraction(wish.number(pair))
                    self.assertEqual(fraction(told[pair]), paid)
            for pair in house.pairs():
                self.assertIs(are_fair(wish, values, {**told, pair: told[pair] + TINY}), False)

    def test_income(self):
        draw = random.Random(138)
        for house in [*small_houses(139, 30), tied_house(), *lean_houses(), large_house()]:
            payments = {pair: draw.choice([-2, 0, 3, Ratio(-1, 3), Ratio(7, 2)])
                        for pair in draw.sample(house.pairs(), draw.randint(0, len(house)))}
            told = income(house=house, payments=payments)
            self.assertIs(type(told), Ratio)
            self.assertEqual(fraction(told), sum([fraction(house.chance(pair)) * value(payment)
                                                  for pair, payment in payments.items()], Fraction(0)))

    def test_new_dicts(self):
        house, values = document_house(), {LOW: 2, HIGH: 3}
        greatest_payments(Wish(house, {}), values).clear()
        evened(house, values).clear()
        best_income(house, values)[1].clear()
        self.assertEqual(list(greatest_payments(Wish(house, {}), values)), house.pairs())
        self.assertEqual(list(evened(house, values)), house.pairs())
        self.assertEqual(best_income(house, values)[1], [HIGH, LOW])


class EvenedGains(Case):
    def test_by_all_groups(self):
        draw = random.Random(140)
        pooled = 0
        for house in [*free_houses(141, 80, 8), large_house()]:
            for _ in range(3):
                values = random_values(draw, house)
                told = evened(house=house, values=values)
                self.assertEqual(list(told), house.pairs())
                self.assertEqual({type(gain) for gain in told.values()}, {Ratio})
                self.assertEqual({pair: fraction(gain) for pair, gain in told.items()}, plain_evened(house, values))
                for name in house.names():
                    gains = [fraction(told[pair]) for pair in ascending(house, values, name)]
                    self.assertEqual(gains, sorted(gains))
                    pooled += len(gains) - len(set(gains))
        self.assertGreater(pooled, 30)

    def test_income_is_the_bound_of_a_roof(self):
        draw = random.Random(142)
        for house in [*free_houses(143, 40), large_house()]:
            values = random_values(draw, house)
            told, order = best_income(house=house, values=values)
            gains = evened(house, values)
            self.assertIs(type(told), Ratio)
            self.assertEqual((told, order), best(house, gains))
            found = roof(house, gains)
            if len(house) < 8:
                self.assertTrue(is_plain_roof(house, gains, found))
                self.assertEqual(fraction(told), bound_of(house, found))
            wish = order_wish(house, order)
            self.assertEqual(income(house, greatest_payments(wish, values)), told)
            keys = [-fraction(gains[pair]) for pair in order]
            self.assertEqual(keys, sorted(keys))
            self.assertEqual(set(order), {pair for pair in house.pairs() if Ratio(0).below(gains[pair])})

    def test_no_order_has_a_greater_income(self):
        draw = random.Random(144)
        for house in free_houses(145, 15, 4):
            values = random_values(draw, house)
            told, _ = best_income(house, values)
            for order in every_order(house):
                wish = wish_with(house, order_numbers(house, order))
                if fall(wish, values) is None:
                    self.assertFalse(told.below(income(house, greatest_payments(wish, values))))
            for _ in range(5):
                wish = possible_wish(draw, house)
                if fall(wish, values) is None:
                    self.assertFalse(told.below(income(house, greatest_payments(wish, values))))

    def test_largest_houses_and_long_numbers(self):
        draw = random.Random(146)
        house = long_house(draw)
        values = {pair: long_share(draw) for pair in house.pairs()}
        told, order = best_income(house, values)
        wish = order_wish(house, order)
        self.assertEqual(income(house, greatest_payments(wish, values)), told)
        self.assertIs(are_fair(wish, values, greatest_payments(wish, values)), True)
        self.assertEqual(len(numbers_of(wish)), 16)

    def test_same_for_equal_arguments(self):
        house = half_house()
        again = House.tied([("ann", ("low", "high")), ("bob", ["low"])], house.days()[::-1])
        one, other = {LOW: 2, HIGH: 1}, {HIGH: Ratio(3, 3), LOW: Ratio(2)}
        self.assertEqual(evened(house, one), evened(again, other))
        self.assertEqual(best_income(house, one), best_income(again, other))
        self.assertEqual(greatest_payments(Wish(house, {}), one), greatest_payments(Wish(again, {}), other))


if __name__ == "__main__":
    unittest.main()
