"""Promises 101 to 104: even wishes."""

import itertools
import random
import unittest
from fractions import Fraction

from tests.checks import Case, any_values, half_house, large_house, tied_house
from tests.samples import (
    document_house, every_lot, fraction, long_house, long_share, numbers_of, plain_coming, plain_comings,
    plain_possible, plain_want, possible_wish, random_wish, ratio, small_houses, ten_house,
)
from tests.test_lots import NO_HOUSES, NO_LOTS
from tests.test_wishes import WRONG_KEYS, no_pairs
from winoften.errors import (
    Duplicate, InvalidGroups, InvalidHouse, InvalidLot, InvalidNumber, InvalidWish, InvalidWorths, UnknownPair,
)
from winoften.even import even, even_groups, even_steps, is_even, shows_even
from winoften.houses import House
from winoften.lots import coming, lot_of
from winoften.possible import factor, is_possible
from winoften.ratios import Ratio
from winoften.rules import Rule
from winoften.wishes import Wish

HALF = Ratio(1, 2)
LOW, HIGH, BOB = ("ann", "low"), ("ann", "high"), ("bob", "low")
TINY = Ratio(1, 10 ** 50)
NO_WEIGHTS = [True, False, 0, 1, Ratio(1), "", "ann", [], (), [(LOW, 1)], half_house()]
NO_NUMBERS = [None, True, False, 0, -1, Ratio(0), Ratio(-1, 2), "1", "", [], [1], (1,), {}]


def value(number):
    return fraction(number) if isinstance(number, Ratio) else Fraction(number)


def random_weights(draw, house):
    """No weights, or weights for some or all pairs in any order."""
    if draw.random() < 0.3:
        return None
    pairs = draw.sample(house.pairs(), draw.randint(0, len(house)))
    return {pair: draw.choice([1, 2, 3, Ratio(draw.randint(1, 9), draw.randint(1, 4))]) for pair in pairs}


def heights_of(wish, weights):
    """The heights of the pairs by a wish, by the definition."""
    return {pair: fraction(number) / value((weights or {}).get(pair, 1)) for pair, number in wish.numbers().items()}


def plain_levels(units, comings):
    """The heights of units, tuples of a set of pairs and a weight, as even as can be: by all sets of units.

    Those with the least height are the largest set that is full at it; the others share the days without these.
    """
    heights = {}
    filled = frozenset()
    while len(heights) < len(units):
        rest = [index for index in range(len(units)) if index not in heights]
        found = []
        for size in range(1, len(rest) + 1):
            for some in itertools.combinations(rest, size):
                pairs = filled.union(*[units[index][0] for index in some])
                weight = sum([units[index][1] for index in some])
                found.append(((comings[pairs] - comings[filled]) / weight, -size, some, pairs))
        height, _, some, filled = min(found)
        heights.update({index: height for index in some})
    return [heights[index] for index in range(len(units))]


def plain_even(house, weights):
    """The heights of the even wish, by all lots."""
    units = [(frozenset([pair]), fraction(house.chance(pair)) * value((weights or {}).get(pair, 1)))
             for pair in house.pairs()]
    return dict(zip(house.pairs(), plain_levels(units, plain_comings(house))))


def steps_of(heights):
    """The steps of heights of pairs."""
    return [(height, [pair for pair in heights if heights[pair] == height]) for height in sorted(set(heights.values()))]


class Weights(Case):
    def calls(self):
        """All functions with weights, with what stands before them."""
        house = document_house()
        wish = Wish(house, {LOW: HALF})
        return [(even, (house,)), (even_steps, (house,)), (is_even, (wish,)), (shows_even, (wish, None))]

    def test_wrong_houses_and_wishes(self):
        for call in (even, even_steps):
            for wrong in NO_HOUSES:
                self.refused(InvalidHouse, wrong, call, wrong, weights=0)
        for call, rest in [(is_even, ()), (shows_even, (None,))]:
            for wrong in [*any_values(), {LOW: 1}, Rule(document_house(), {})]:
                with self.subTest(call=call, wrong=wrong):
                    self.refused(InvalidWish, wrong, call, wrong, *rest, weights=0)

    def test_wrong_weights(self):
        for call, before in self.calls():
            for wrong in NO_WEIGHTS:
                with self.subTest(call=call, wrong=wrong):
                    self.refused(InvalidWorths, wrong, call, *before, weights=wrong)
            for wrong in WRONG_KEYS:
                with self.subTest(call=call, wrong=wrong):
                    self.refused(UnknownPair, wrong, call, *before, weights={LOW: 1, wrong: None, HIGH: None})
            for wrong in NO_NUMBERS:
                with self.subTest(call=call, wrong=wrong):
                    self.refused(InvalidNumber, wrong, call, *before, weights={LOW: 2, HIGH: wrong, "zed": 1})

    def test_only_by_name(self):
        for call, before in self.calls():
            with self.assertRaises(TypeError):
                call(*before, {LOW: 1})

    def test_arguments_stay(self):
        weights = {BOB: 2, LOW: Ratio(1, 3)}
        even(document_house(), weights=weights)
        even_steps(document_house(), weights=weights)
        self.assertEqual(list(weights.items()), [(BOB, 2), (LOW, Ratio(1, 3))])


class Even(Case):
    def test_document_example(self):
        house = House.tied([("ann", ["a"]), ("bob", ["a"]), ("cy", ["a"])],
                           [(("a", "a", None), Ratio(2, 3)), ((None, None, "a"), Ratio(1, 3))])
        self.assertEqual(
            [str(even(house)), [(height.text(), lot) for height, lot in even_steps(house)]],
            ["ann a 1/2; bob a 1/2; cy a 1", [("1/2", [("ann", "a"), ("bob", "a")]), ("1", [("cy", "a")])]])

    def test_by_all_lots(self):
        draw = random.Random(101)
        many = 0
        for house in small_houses(102, 60):
            weights = random_weights(draw, house)
            expected = plain_even(house, weights)
            wish = even(house=house, weights=weights)
            self.assertIs(type(wish), Wish)
            self.assertTrue(wish.house == house)
            self.assertEqual(heights_of(wish, weights), expected)
            self.assertTrue(plain_possible(wish))
            self.assertIs(is_even(wish=wish, weights=weights), True)
            steps = even_steps(house=house, weights=weights)
            self.assertEqual([(fraction(height), lot) for height, lot in steps], steps_of(expected))
            self.assertEqual({type(height) for height, _ in steps}, {Ratio})
            self.assertEqual({type(step) for step in steps}, {tuple})
            for lot in itertools.accumulate([lot for _, lot in steps]):
                self.assertEqual(plain_want(wish, lot), plain_coming(house, lot))
            self.assertIs(shows_even(wish=wish, steps=steps, weights=weights), True)
            many += len(steps) > 1
        self.assertGreater(many, 15)

    def test_no_possible_wish_is_more_even(self):
        draw = random.Random(103)
        for house in small_houses(104, 40):
            weights = random_weights(draw, house)
            found = even(house, weights=weights)
            best = sorted(heights_of(found, weights).values())
            for _ in range(8):
                wish = possible_wish(draw, house, draw.choice([2, 5]))
                near = found.mixed(wish, Ratio(99, 100))
                for other in (wish, near):
                    self.assertTrue(plain_possible(other))
                    self.assertTrue(sorted(heights_of(other, weights).values()) < best or other == found)

    def test_without_weights(self):
        for house in [document_house(), tied_house(), large_house()]:
            self.assertEqual(even(house), even(house, weights=None))
            self.assertEqual(even(house), even(house, weights={}))
            self.assertEqual(even(house), even(house, weights={pair: 1 for pair in house.pairs()}))
            self.assertEqual(even(house), even(house, weights={pair: 7 for pair in house.pairs()}))
            self.assertEqual(even_steps(house), even_steps(house, weights={house.pairs()[0]: Ratio(1)}))

    def test_near_wishes_are_not_even(self):
        draw = random.Random(105)
        for house in small_houses(106, 20):
            weights = random_weights(draw, house)
            wish = even(house, weights=weights)
            for pair in house.pairs():
                number = wish.number(pair)
                self.assertIs(is_even(wish.with_number(pair, number + TINY), weights=weights), False)
                self.assertIs(is_even(wish.with_number(pair, number - TINY), weights=weights), False)
            self.assertIs(is_even(Wish(house, {}), weights=weights), False)
            heavy = {**(weights or {}), house.pairs()[0]: 1000}
            self.assertIs(is_even(wish, weights=heavy), even(house, weights=heavy) == wish)

    def test_same_for_equal_arguments(self):
        house = document_house()
        tied = House.tied([("ann", ["low", "high"]), ("bob", ["low"])], house.days()[::-1])
        weights = {LOW: Ratio(3), BOB: HALF}
        self.assertTrue(even(house, weights=weights) == even(tied, weights={BOB: HALF, LOW: 3}))
        self.assertEqual(even_steps(house, weights=weights), even_steps(tied, weights={BOB: HALF, LOW: 3}))

    def test_largest_houses(self):
        draw = random.Random(107)
        for house in [large_house(), long_house(draw), ten_house()]:
            for weights in [None, {pair: long_share(draw) for pair in house.pairs()}]:
                wish, steps = even(house, weights=weights), even_steps(house, weights=weights)
                self.assertIs(shows_even(wish, steps, weights=weights), True)
                self.assertIs(is_even(wish, weights=weights), True)
                self.assertTrue(is_possible(wish))
                self.assertEqual(factor(wish), 1)


class Steps(Case):
    def setUp(self):
        self.house = House.tied([("ann", ["a"]), ("bob", ["a"]), ("cy", ["a"])],
                                [(("a", "a", None), Ratio(2, 3)), ((None, None, "a"), Ratio(1, 3))])
        self.wish = even(self.house)

    def test_true(self):
        ann, bob, cy = self.house.pairs()
        for steps in [[(HALF, [ann, bob]), (1, [cy])], ((Ratio(2, 4), (bob, ann)), (Ratio(1), (cy,)))]:
            self.assertIs(shows_even(self.wish, steps), True)
        weights = {ann: 2, cy: Ratio(1, 3)}
        wish = even(self.house, weights=weights)
        self.assertEqual(str(wish), "ann a 2/3; bob a 1/3; cy a 1")
        self.assertIs(shows_even(wish, [(Ratio(1, 3), [ann, bob]), (3, [cy])], weights=weights), True)
        self.assertIs(shows_even(wish, [(Ratio(1, 3), [ann, bob]), (1, [cy])], weights=weights), False)
        self.assertIs(shows_even(wish, [(Ratio(1, 3), [ann, bob]), (3, [cy])]), False)

    def test_near_misses(self):
        ann, bob, cy = self.house.pairs()
        for steps in [
            [], (), [(HALF, [ann, bob])], [(1, [cy])], [(1, [cy]), (HALF, [ann, bob])], [(HALF, [ann, bob, cy])],
            [(HALF, [ann]), (HALF, [bob]), (1, [cy])], [(HALF, [ann, bob]), (HALF, []), (1, [cy])],
            [(0, []), (HALF, [ann, bob]), (1, [cy])], [(HALF, [ann, bob]), (1, [cy]), (2, [])],
            [(HALF, [ann, bob]), (1, [cy, ann])], [(HALF, [ann, bob, bob]), (1, [cy])],
            [(HALF, [ann, bob]), (1, [cy]), (2, [cy])], [(HALF, [ann, bob]), (1, [cy]), (1, [cy])],
            [(HALF, [ann, bob]), (1, ["zed"])], [(HALF, [ann, bob]), (1, [cy, "zed"])],
            [[HALF, [ann, bob]], [1, [cy]]], [(HALF, [ann, bob]), (True, [cy])], [(HALF, [ann, bob]), ("1", [cy])],
            [(HALF + TINY, [ann, bob]), (1, [cy])], [([ann, bob], HALF), ([cy], 1)], [(HALF, [ann, bob]), (1, cy)],
            [(HALF, [ann, bob]), (1, None)], [(HALF, [ann, bob]), (1, 5)], [(HALF, [ann, bob]), (1, {cy: 1})],
            [(HALF, [ann, bob]), (1, [cy], 1)], [(HALF, [ann, bob]), (1, [cy]), None],
            [(HALF, [list(ann), bob]), (1, [cy])],
            {HALF.top: [ann]}, (HALF, [ann, bob]), str(self.wish), self.wish, *any_values(),
        ]:
            with self.subTest(steps):
                self.assertIs(shows_even(self.wish, steps), False)

    def test_lots_that_are_not_full(self):
        house = document_house()
        for wish in [Wish(house, {LOW: HALF, HIGH: HALF, BOB: HALF}), Wish(house, {LOW: HALF, HIGH: HALF, BOB: 0}),
                     Wish(house, {LOW: 1, HIGH: 1, BOB: 1})]:
            steps = [(ratio(height), lot) for height, lot in steps_of(heights_of(wish, None))]
            self.assertIs(shows_even(wish, steps), False)
        self.assertIs(shows_even(even(house), even_steps(house)), True)

    def test_full_lots_of_a_wish_that_is_not_possible(self):
        """All pairs together are full, and so is each first lot, but a part of one wants more than its coming."""
        ann, bob, cy = self.house.pairs()
        wish = Wish(self.house, {ann: HALF, bob: HALF, cy: HALF})
        house = House.tied([("ann", ["a"]), ("bob", ["a"]), ("cy", ["a"])],
                           [(("a", None, None), Ratio(1, 4)), ((None, "a", "a"), Ratio(3, 4))])
        other = Wish(house, {pair: Ratio(4, 7) for pair in house.pairs()})
        self.assertEqual(other.total(), coming(house, house.pairs()))
        self.assertFalse(is_possible(other))
        self.assertIs(shows_even(other, [(Ratio(4, 7), house.pairs())]), False)
        self.assertIs(shows_even(wish, [(HALF, [ann, bob, cy])]), False)

    def test_random_wishes(self):
        draw = random.Random(109)
        seen = {True: 0, False: 0}
        for house in small_houses(110, 40):
            weights = random_weights(draw, house)
            for wish in [even(house, weights=weights), possible_wish(draw, house, 2), random_wish(draw, house)]:
                steps = [(ratio(height), draw.sample(lot, len(lot)))
                         for height, lot in steps_of(heights_of(wish, weights))]
                expected = wish == even(house, weights=weights)
                seen[expected] += 1
                self.assertIs(shows_even(wish, steps, weights=weights), expected)
                self.assertIs(is_even(wish, weights=weights), expected)
        self.assertGreater(min(seen.values()), 30)

    def test_new_lists(self):
        told = even_steps(self.house)
        told[0][1].clear()
        told.clear()
        self.assertEqual(len(even_steps(self.house)[0][1]), 2)


class Groups(Case):
    def random_groups(self, draw, house):
        pairs = draw.sample(house.pairs(), draw.randint((len(house) + 1) // 2, len(house)))
        most = draw.randint(1, 3)
        groups = []
        while pairs:
            size = draw.randint(1, min(most, len(pairs)))
            groups.append(pairs[:size])
            pairs = pairs[size:]
        return groups

    def test_by_all_groups(self):
        draw = random.Random(111)
        many = 0
        for house in small_houses(112, 60) * 2:
            groups = self.random_groups(draw, house)
            told = even_groups(house=house, groups=groups)
            self.assertEqual([type(part) for part in (told, *told)], [tuple, list, Wish])
            means, wish = told
            self.assertEqual({type(mean) for mean in means}, {Ratio})
            weights = [sum([fraction(house.chance(pair)) for pair in group]) for group in groups]
            units = [(frozenset(group), weight) for group, weight in zip(groups, weights)]
            self.assertEqual([fraction(mean) for mean in means], plain_levels(units, plain_comings(house)))
            for group, weight, mean in zip(groups, weights, means):
                self.assertEqual(plain_want(wish, group) / weight, fraction(mean))
            self.assertTrue(plain_possible(wish))
            for pair in house.pairs():
                if not any(pair in group for group in groups):
                    self.assertEqual(wish.number(pair), 0)
            many += len(set(map(fraction, means))) > 1
        self.assertGreater(many, 10)

    def test_no_possible_wish_has_more_even_means(self):
        draw = random.Random(113)
        for house in small_houses(118, 40):
            groups = self.random_groups(draw, house)
            weights = [sum([fraction(house.chance(pair)) for pair in group]) for group in groups]
            means, found = even_groups(house, groups)
            best = sorted(map(fraction, means))
            for _ in range(8):
                wish = possible_wish(draw, house, draw.choice([2, 5]))
                for other in (wish, found.mixed(wish, Ratio(99, 100))):
                    told = [plain_want(other, group) / weight for group, weight in zip(groups, weights)]
                    self.assertTrue(plain_possible(other))
                    self.assertLessEqual(sorted(told), best)

    def test_single_pairs_are_even(self):
        for house in [*small_houses(114, 20), large_house()]:
            means, wish = even_groups(house, [[pair] for pair in house.pairs()])
            self.assertTrue(wish == even(house))
            self.assertEqual(means, list(even(house).numbers().values()))

    def test_one_group_of_all(self):
        for house in small_houses(116, 10):
            means, wish = even_groups(house, [house.pairs()])
            self.assertEqual(wish.total(), coming(house, house.pairs()))
            together = sum([fraction(house.chance(pair)) for pair in house.pairs()])
            self.assertEqual(fraction(means[0]), fraction(wish.total()) / together)

    def test_largest_houses(self):
        draw = random.Random(117)
        for house in [large_house(), long_house(draw)]:
            pairs = house.pairs()
            groups = [[pairs[0], pairs[5]], [pairs[1]], pairs[8:12], [pairs[2], pairs[14]]]
            means, wish = even_groups(house, groups)
            self.assertTrue(is_possible(wish))
            for group, mean in zip(groups, means):
                weight = sum([fraction(house.chance(pair)) for pair in group])
                self.assertEqual(fraction(wish.want(group)), weight * fraction(mean))

    def test_same_for_equal_arguments(self):
        house = document_house()
        one = even_groups(house, [[LOW, BOB], [HIGH]])
        self.assertTrue(one == even_groups(house, ((LOW, BOB), (HIGH,))))
        self.assertTrue(one == even_groups(House.tied([("ann", ["low", "high"]), ("bob", ["low"])], house.days()),
                                           [(LOW, BOB), [HIGH]]))

    def test_wrong_groups(self):
        house = document_house()
        for wrong in NO_HOUSES:
            self.refused(InvalidHouse, wrong, even_groups, wrong, None)
        for wrong in [None, True, 0, 1, Ratio(1), "", "ab", {}, {(LOW,): 1}, [], (), [[LOW]] * 17, ([],) * 17, house]:
            with self.subTest(wrong):
                self.refused(InvalidGroups, wrong, even_groups, house, wrong)
        for wrong in NO_LOTS:
            self.refused(InvalidLot, wrong, even_groups, house, [[LOW], wrong, None])
        for wrong in no_pairs():
            with self.subTest(wrong):
                self.refused(UnknownPair, wrong, even_groups, house, [[HIGH], [LOW, wrong, LOW], None])
        for wrong in [[], ()]:
            self.refused(InvalidGroups, wrong, even_groups, house, [[LOW], wrong, [LOW]])
        again = tuple(["ann", "low"])
        self.refused(Duplicate, again, even_groups, house, [[LOW, again], [LOW], []])
        self.refused(Duplicate, again, even_groups, house, [[LOW, BOB], [HIGH, again, BOB], [BOB]])
        other = tuple(["bob", "low"])
        self.refused(Duplicate, other, even_groups, house, [[BOB], [LOW], [HIGH, other, LOW]])
        self.refused(UnknownPair, "zed", even_groups, house, [[BOB], [BOB, "zed"]])

    def test_sixteen_groups(self):
        house = large_house()
        self.assertEqual(len(even_groups(house, [[pair] for pair in house.pairs()])[0]), 16)

    def test_arguments_stay_and_results_are_new(self):
        house, groups = document_house(), [[BOB, LOW], [HIGH]]
        means, _ = even_groups(house, groups)
        self.assertEqual(groups, [[BOB, LOW], [HIGH]])
        before = list(means)
        means.clear()
        self.assertEqual(even_groups(house, groups)[0], before)
        self.assertEqual(lot_of(house, groups[0]), [LOW, BOB])
        self.assertEqual(len(numbers_of(even(house))), len(every_lot(house)[-1]))


if __name__ == "__main__":
    unittest.main()
