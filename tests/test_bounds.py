"""Promises 111 to 114: wishes within bounds."""

import random
import unittest
from fractions import Fraction

from tests.checks import Case, any_values, half_house, large_house, tied_house
from tests.samples import (
    document_house, every_lot, fraction, long_house, long_share, plain_coming, plain_possible, plain_want,
    possible_wish, random_wish, ratio, small_houses, there,
)
from tests.test_lots import NO_HOUSES, NO_LOTS
from tests.test_wishes import NO_DICTS, WRONG_KEYS, no_pairs
from winoften.bounds import between, shows_between, spans
from winoften.errors import Duplicate, InvalidBounds, InvalidHouse, InvalidLot, UnknownPair
from winoften.houses import House
from winoften.lots import lot_of
from winoften.possible import excess, factor, is_possible
from winoften.ratios import Ratio
from winoften.rules import order_wish
from winoften.wishes import Wish

HALF = Ratio(1, 2)
LOW, HIGH, BOB = ("ann", "low"), ("ann", "high"), ("bob", "low")
TINY = Ratio(1, 10 ** 50)
NO_BOUNDS = [None, True, 0, 1, Ratio(1), "", "ab", {}, [], (), [0, None], [0, 1], (0,), (0, 1, 2), (-1, None), (0, -1),
             (True, None), (0, True), (None, 0), (None, None), ("0", None), (0, "1"), (Ratio(-1, 2), 1), ([], []),
             (0, [1])]


def value(number):
    return fraction(number) if isinstance(number, Ratio) else Fraction(number)


def random_bounds(draw, house):
    """Bounds for some or all pairs, in any order, some of them equal, few of them crossed, and a lot to serve."""
    bounds = {}
    base = possible_wish(draw, house, 2) if draw.random() < 0.7 else random_wish(draw, house)
    for pair in draw.sample(house.pairs(), draw.randint(0, len(house))):
        number = fraction(base.number(pair))
        low = draw.choice([Fraction(0), number * Fraction(draw.randint(0, 5), 4), number])
        high = draw.choice([None, low, low + Fraction(draw.randint(0, 4), 6), low + Fraction(1, 10)])
        if high is not None and draw.random() < 0.1:
            high = low * Fraction(99, 100)
        bounds[pair] = (ratio(low), None if high is None else ratio(high))
    served = draw.choice([[], house.pairs(), draw.sample(house.pairs(), draw.randint(0, len(house)))])
    return bounds, served


def chance_of(house, fits):
    """The chance of the days whose pairs fit, as a Fraction."""
    return sum([fraction(chance) for day, chance in house.days() if fits(there(house, day))], Fraction(0))


def wins_too_much(house, bounds, served, lot):
    """Whether a lot is to win too much, by [112]."""
    inside = [pair for pair in lot if pair in served]
    outside = [pair for pair in lot if pair not in served]
    most = chance_of(house, lambda pairs: any(pair in inside for pair in pairs))
    most += chance_of(house, lambda pairs: any(pair in outside for pair in pairs)
                      and not any(pair in served for pair in pairs))
    lows = sum([fraction(house.chance(pair)) * value(bounds.get(pair, (0, None))[0]) for pair in lot], Fraction(0))
    return lows > most


def wins_too_little(house, bounds, served, lot):
    """Whether a lot may win too little, by [112]."""
    highs = [bounds.get(pair, (0, None))[1] for pair in lot]
    if None in highs or not all(pair in served for pair in lot):
        return False
    others = [pair for pair in served if pair not in lot]
    fewest = chance_of(house, lambda pairs: any(pair in served for pair in pairs)
                       and not any(pair in others for pair in pairs))
    return sum([fraction(house.chance(pair)) * value(high) for pair, high in zip(lot, highs)], Fraction(0)) < fewest


def is_crossed(bounds, pair):
    low, high = bounds.get(pair, (0, None))
    return high is not None and value(high) < value(low)


def nothing_shows(house, bounds, served):
    """Whether no pair and no lot shows that there is no wish, by all lots."""
    if any(is_crossed(bounds, pair) for pair in house.pairs()):
        return False
    return not any(wins_too_much(house, bounds, served, lot) or wins_too_little(house, bounds, served, lot)
                   for lot in every_lot(house))


def lies_within(wish, bounds, served):
    """Whether a wish lies within bounds and fills a lot, by the definition."""
    for pair, (low, high) in bounds.items():
        number = fraction(wish.number(pair))
        if number < value(low) or (high is not None and number > value(high)):
            return False
    return plain_possible(wish) and plain_want(wish, served) == plain_coming(wish.house, served)


class WrongArguments(Case):
    def calls(self):
        """All functions with bounds, with what stands behind these."""
        return [(between, ()), (shows_between, (None,)), (spans, ())]

    def test_wrong_houses_and_bounds(self):
        house = document_house()
        for call, behind in self.calls():
            for wrong in NO_HOUSES:
                self.refused(InvalidHouse, wrong, call, wrong, None, *behind, served=None)
            for wrong in NO_DICTS:
                self.refused(InvalidBounds, wrong, call, house, wrong, *behind, served=None)
            for wrong in WRONG_KEYS:
                with self.subTest(call=call, wrong=wrong):
                    self.refused(UnknownPair, wrong, call, house, {LOW: (0, 0), wrong: None, HIGH: 0}, *behind,
                                 served=None)
            for wrong in NO_BOUNDS:
                with self.subTest(call=call, wrong=wrong):
                    self.refused(InvalidBounds, wrong, call, house, {LOW: (2, 1), HIGH: wrong, "zed": 0}, *behind,
                                 served=None)

    def test_wrong_lots(self):
        house = document_house()
        for call, behind in self.calls():
            for bounds in [{}, {LOW: (2, 1)}]:
                for wrong in NO_LOTS:
                    self.refused(InvalidLot, wrong, call, house, bounds, *behind, served=wrong)
                for wrong in no_pairs():
                    with self.subTest(call=call, wrong=wrong):
                        self.refused(UnknownPair, wrong, call, house, bounds, *behind, served=[LOW, wrong, LOW])
                again = tuple(["ann", "low"])
                self.refused(Duplicate, again, call, house, bounds, *behind, served=[LOW, again, "zed"])

    def test_served_only_by_name(self):
        for call, behind in self.calls():
            with self.assertRaises(TypeError):
                call(document_house(), {}, *behind, [LOW])

    def test_arguments_stay(self):
        bounds, served = {BOB: (0, HALF), LOW: (0, None)}, [BOB, LOW]
        house = document_house()
        told = between(house, bounds, served=served)
        shows_between(house, bounds, told, served=served)
        spans(house, bounds, served=served)
        self.assertEqual((list(bounds.items()), served), ([(BOB, (0, HALF)), (LOW, (0, None))], [BOB, LOW]))


class Between(Case):
    def checked(self, house, bounds, served):
        """The word that is told for bounds; what is told with it is checked by its definition."""
        told = between(house=house, bounds=bounds, served=served)
        self.assertIs(type(told), tuple)
        word, shown = told
        if word == "wish":
            self.assertIs(type(shown), Wish)
            self.assertTrue(shown.house == house)
            self.assertTrue(lies_within(shown, bounds, served))
        elif word == "pair":
            self.assertIn(shown, house.pairs())
            self.assertTrue(is_crossed(bounds, shown))
        else:
            self.assertIs(type(shown), list)
            self.assertEqual(shown, lot_of(house, shown))
            shows = {"much": wins_too_much, "little": wins_too_little}[word]
            self.assertTrue(shows(house, bounds, served, shown))
        self.assertIs(shows_between(house=house, bounds=bounds, told=told, served=served), True)
        return word

    def test_document_example(self):
        house = document_house()
        told = between(house, {BOB: (HALF, HALF), HIGH: (Ratio(3, 4), None)})
        self.assertEqual([told[0], told[1].number(BOB).text(), shows_between(house, {}, told)], ["wish", "1/2", True])
        self.assertEqual(between(house, {LOW: (1, None), HIGH: (Ratio(3, 4), None), BOB: (HALF, 1)}),
                         ("much", [LOW, HIGH, BOB]))
        found = spans(house, {HIGH: (1, None)}, served=house.pairs())
        self.assertEqual([(low.text(), high.text()) for low, high in found.values()],
                         [("1/2", "1"), ("1", "1"), ("0", "1/2")])

    def test_a_wish_exactly_if_nothing_shows_that_there_is_none(self):
        draw = random.Random(111)
        counts = {"wish": 0, "pair": 0, "much": 0, "little": 0}
        for house in small_houses(112, 60, 5):
            for _ in range(8):
                bounds, served = random_bounds(draw, house)
                word = self.checked(house, bounds, served)
                counts[word] += 1
                self.assertEqual(word == "wish", nothing_shows(house, bounds, served))
        self.assertGreater(min(counts.values()), 15)

    def test_without_bounds(self):
        for house in small_houses(114, 15):
            for served in [[], house.pairs(), house.pairs()[:1]]:
                self.assertEqual(self.checked(house, {}, served), "wish")
            self.assertEqual(between(house, {}), between(house, {}, served=()))

    def test_all_numbers_told(self):
        draw = random.Random(115)
        for house in small_houses(116, 30):
            wish = possible_wish(draw, house, 3)
            bounds = {pair: (number, number) for pair, number in wish.numbers().items()}
            self.assertEqual(between(house, bounds), ("wish", wish))
            over = wish.scaled(factor(wish) or 1).scaled(Ratio(1) + TINY)
            bounds = {pair: (number, None) for pair, number in over.numbers().items()}
            self.assertEqual(self.checked(house, bounds, []), "much" if over.total() != 0 else "wish")

    def test_near_bounds(self):
        house = tied_house()
        ann, bob = house.pairs()
        self.assertEqual(self.checked(house, {ann: (1, 1)}, [ann]), "wish")
        self.assertEqual(self.checked(house, {ann: (Ratio(1) + TINY, None)}, [ann]), "much")
        self.assertEqual(self.checked(house, {ann: (0, Ratio(1) - TINY)}, [ann]), "little")
        self.assertEqual(self.checked(house, {ann: (0, Ratio(1) - TINY)}, [bob]), "wish")
        self.assertEqual(self.checked(house, {ann: (HALF, HALF - TINY)}, []), "pair")
        self.assertEqual(self.checked(house, {ann: (5, None), bob: (HALF, 0)}, []), "pair")

    def test_pairs_that_are_not_served_stand_back(self):
        house = document_house()
        self.assertEqual(self.checked(house, {LOW: (HALF, None)}, [BOB]), "wish")
        self.assertEqual(self.checked(house, {LOW: (HALF + TINY, None)}, [BOB]), "much")
        self.assertEqual(self.checked(house, {BOB: (0, HALF)}, [BOB]), "little")
        self.assertEqual(self.checked(house, {BOB: (0, HALF), LOW: (0, HALF)}, [BOB, LOW]), "little")
        self.assertEqual(self.checked(house, {BOB: (0, HALF)}, [BOB, LOW, HIGH]), "wish")

    def test_largest_houses(self):
        draw = random.Random(117)
        for house in [large_house(), long_house(draw)]:
            base = Wish(house, {pair: long_share(draw) for pair in house.pairs()})
            base = base.scaled(factor(base) * Ratio(2, 3))
            bounds = {pair: (number, draw.choice([None, number + HALF])) for pair, number in base.numbers().items()}
            served = []
            for served in ([], house.pairs()):
                told = between(house, bounds, served=served)
                self.assertEqual(told[0], "wish")
                self.assertTrue(base.within(told[1]) and is_possible(told[1]))
                self.assertEqual(excess(told[1], served), 0)
                self.assertIs(shows_between(house, bounds, told, served=served), True)
            tight = {pair: (0, Ratio(1, 5)) for pair in house.pairs()}
            told = between(house, tight, served=house.pairs())
            self.assertIs(shows_between(house, tight, told, served=house.pairs()), True)
            found = spans(house, bounds, served=house.pairs())
            self.assertEqual(list(found), house.pairs())
            for pair, (least, greatest) in found.items():
                self.assertFalse(least.below(base.number(pair)) or greatest.below(least))

    def test_same_for_equal_arguments(self):
        house = document_house()
        again = House.tied([("ann", ["low", "high"]), ("bob", ["low"])], house.days()[::-1])
        bounds = {LOW: (Ratio(1, 4), 1), BOB: (0, Ratio(2, 4))}
        turned = {BOB: (Ratio(0), HALF), LOW: (Ratio(1, 4), Ratio(1))}
        for served in ([], [LOW, BOB]):
            one = between(house, bounds, served=served)
            self.assertTrue(one == between(again, turned, served=tuple(served)))
            self.assertEqual(spans(house, bounds, served=served), spans(again, turned, served=tuple(served)))


class Judging(Case):
    def test_wishes(self):
        house = document_house()
        bounds = {LOW: (Ratio(1, 4), HALF), BOB: (0, HALF)}
        wish = Wish(house, {LOW: HALF, HIGH: 1})
        self.assertIs(shows_between(house, bounds, ("wish", wish)), True)
        self.assertIs(shows_between(house, bounds, ("wish", wish), served=[HIGH]), True)
        self.assertIs(shows_between(house, bounds, ("wish", wish), served=(BOB,)), False)
        for other in [wish.with_number(LOW, HALF + TINY), wish.with_number(LOW, Ratio(1, 4) - TINY),
                      wish.with_number(BOB, HALF + TINY), wish.with_number(BOB, 1), Wish(half_house(), {LOW: HALF}),
                      wish.with_number(HIGH, Ratio(1) + TINY), str(wish), wish.numbers(), None, LOW, [LOW]]:
            with self.subTest(other):
                self.assertIs(shows_between(house, bounds, ("wish", other)), False)
        for told in [["wish", wish], ("wish", wish, 1), ("wish",), wish, ("pair", wish), ("much", wish),
                     ("little", wish), (wish, "wish"), *any_values()]:
            with self.subTest(told):
                self.assertIs(shows_between(house, bounds, told), False)
        full = order_wish(house, [BOB, LOW, HIGH])
        self.assertIs(shows_between(house, {}, ("wish", full), served=house.pairs()), True)
        self.assertIs(shows_between(house, {}, ("wish", full.with_number(LOW, HALF - TINY)), served=house.pairs()),
                      False)
        self.assertIs(shows_between(house, {}, ("wish", full.with_number(LOW, HALF + TINY))), False)

    def test_pairs(self):
        house = document_house()
        bounds = {LOW: (HALF, HALF - TINY), BOB: (1, 1), HIGH: (5, None)}
        self.assertIs(shows_between(house, bounds, ("pair", LOW)), True)
        for told in [("pair", BOB), ("pair", HIGH), ("pair", ("zed", "low")), ("pair", ["ann", "low"]), ("pair", [LOW]),
                     ["pair", LOW], ("pair", None), ("much", LOW), ("wish", LOW), ("pair", LOW, LOW), LOW,
                     *[("pair", other) for other in any_values() if other != LOW]]:
            with self.subTest(told):
                self.assertIs(shows_between(house, bounds, told), False)
        self.assertIs(shows_between(house, {LOW: (1, 2)}, ("pair", LOW)), False)

    def test_all_lots(self):
        draw = random.Random(119)
        seen = {("much", True): 0, ("much", False): 0, ("little", True): 0, ("little", False): 0}
        for house in small_houses(120, 30, 4):
            for _ in range(3):
                bounds, served = random_bounds(draw, house)
                for pair in draw.sample(house.pairs(), (len(house) + 1) // 2):
                    bounds[pair] = (draw.choice([0, 1, Ratio(9, 8)]), Ratio(draw.randint(0, 3), 4))
                for lot in every_lot(house):
                    for word, shows in [("much", wins_too_much), ("little", wins_too_little)]:
                        expected = shows(house, bounds, served, lot)
                        seen[(word, expected)] += 1
                        told = (word, draw.choice([list, tuple])(draw.sample(lot, len(lot))))
                        self.assertIs(shows_between(house, bounds, told, served=served), expected)
        self.assertGreater(min(seen.values()), 30, seen)

    def test_near_lots(self):
        house = document_house()
        bounds = {LOW: (1, None), HIGH: (Ratio(3, 4), None), BOB: (HALF, 1)}
        self.assertIs(shows_between(house, bounds, ("much", [BOB, LOW, HIGH])), True)
        for told in [["much", [BOB, LOW, HIGH]], ("much", [BOB, LOW, HIGH, BOB]), ("much", [BOB, LOW, HIGH, "zed"]),
                     ("much", [BOB, LOW, list(HIGH)]), ("little", [BOB, LOW, HIGH]), ("lot", [BOB, LOW, HIGH]),
                     ("much", {BOB: 1, LOW: 1, HIGH: 1}), ("much", None), ("much", "ann"), ("much", [])]:
            with self.subTest(told):
                self.assertIs(shows_between(house, bounds, told), False)
        little = {BOB: (0, HALF), LOW: (0, 1)}
        self.assertIs(shows_between(house, little, ("little", [BOB]), served=[BOB]), True)
        self.assertIs(shows_between(house, little, ("little", [BOB]), served=[BOB, LOW]), False)
        self.assertIs(shows_between(house, little, ("little", [BOB])), False)
        self.assertIs(shows_between(house, {BOB: (0, None)}, ("little", [BOB]), served=[BOB]), False)
        self.assertIs(shows_between(house, {}, ("little", [BOB]), served=[BOB]), False)
        self.assertIs(shows_between(house, little, ("much", [BOB]), served=[BOB]), False)
        # What is not a wish within the bounds may still show that there is none, also where a pair shows it.
        both = {BOB: (2, 1)}
        self.assertIs(shows_between(house, both, ("much", [BOB])), True)
        self.assertIs(shows_between(house, both, ("pair", BOB)), True)


class Spans(Case):
    def fixed(self, house, bounds, served, pair, number):
        """Whether some wish within the bounds that fills the lot gives a pair just this number."""
        low, high = bounds.get(pair, (0, None))
        if value(number) < value(low) or (high is not None and value(number) > value(high)):
            return False
        return between(house, {**bounds, pair: (number, number)}, served=served)[0] == "wish"

    def test_ends(self):
        draw = random.Random(121)
        seen = {"none": 0, "point": 0, "span": 0}
        for house in small_houses(122, 40, 5):
            for _ in range(3):
                bounds, served = random_bounds(draw, house)
                found = spans(house=house, bounds=bounds, served=served)
                if between(house, bounds, served=served)[0] != "wish":
                    self.assertIsNone(found)
                    seen["none"] += 1
                    continue
                self.assertEqual(list(found), house.pairs())
                for pair, ends in found.items():
                    self.assertEqual([type(part) for part in (ends, *ends)], [tuple, Ratio, Ratio])
                    least, greatest = ends
                    seen["point" if least == greatest else "span"] += 1
                    for number in (least, greatest, (least + greatest).over(2), (least * 3 + greatest).over(4)):
                        self.assertTrue(self.fixed(house, bounds, served, pair, number))
                    self.assertFalse(self.fixed(house, bounds, served, pair, greatest + TINY))
                    if least != 0:
                        self.assertFalse(self.fixed(house, bounds, served, pair, least - TINY))
        self.assertGreater(min(seen.values()), 20)

    def test_without_bounds(self):
        for house in small_houses(124, 15):
            for least, greatest in spans(house, {}).values():
                self.assertEqual((least, greatest), (0, 1))
        house = tied_house()
        self.assertEqual(spans(house, {}, served=house.pairs()), {pair: (1, 1) for pair in house.pairs()})

    def test_none(self):
        house = document_house()
        for bounds, served in [({LOW: (2, 1)}, []), ({LOW: (2, None)}, []), ({LOW: (0, HALF)}, [LOW])]:
            self.assertIsNone(spans(house, bounds, served=served))

    def test_new_results(self):
        house = document_house()
        found = spans(house, {})
        found.clear()
        self.assertEqual(len(spans(house, {})), 3)
        told = between(house, {BOB: (2, None)})
        told[1].clear()
        self.assertEqual(between(house, {BOB: (2, None)}), ("much", [BOB]))


if __name__ == "__main__":
    unittest.main()
