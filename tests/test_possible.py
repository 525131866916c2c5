"""Promises 5, 11 and 71 to 76: possible wishes."""

import itertools
import random
import unittest
from fractions import Fraction

from tests.checks import Case, any_values, half_house, large_house, tied_house
from tests.samples import (
    document_house, eleven_house, every_lot, excesses, fraction, long_house, long_share, plain_coming, plain_possible,
    plain_want, possible_wish, random_wish, ratio, small_houses, ten_house, wants,
)
from tests.test_lots import NO_LOTS
from tests.test_wishes import no_pairs
from winoften.errors import Duplicate, Impossible, InvalidLot, InvalidWish, TooMany, UnknownPair
from winoften.houses import House
from winoften.lots import coming, lot_of
from winoften.possible import (
    answer, binding, excess, factor, full_lots, is_answer, is_possible, room, top_lots, worst_lot,
)
from winoften.ratios import Ratio
from winoften.rules import Rule, order_wish
from winoften.wishes import Wish

HALF = Ratio(1, 2)
LOW, HIGH, BOB = ("ann", "low"), ("ann", "high"), ("bob", "low")
TINY = Ratio(1, 10 ** 50)


def wishes(seed, many, most=6):
    """Wishes for small houses, possible ones, corners, and impossible ones."""
    draw = random.Random(seed)
    found = []
    for house in small_houses(seed + 1, many, most):
        found += [random_wish(draw, house), possible_wish(draw, house, 1), possible_wish(draw, house, 3),
                  Wish(house, {}), possible_wish(draw, house, 2).scaled(draw.choice([Ratio(9, 10), Ratio(11, 10)])),
                  possible_wish(draw, house, 1).scaled(Ratio(1) + draw.choice([HALF, TINY])), random_wish(draw, house)]
    return found


class WrongArguments(Case):
    def calls(self):
        """All functions that take a wish first, with the arguments behind it."""
        return [(excess, (None,)), (worst_lot, ()), (answer, ()), (is_possible, ()), (is_answer, (None,)),
                (top_lots, ()), (full_lots, ()), (room, (None,)), (binding, (None,)), (factor, ())]

    def test_wrong_wish(self):
        house = document_house()
        for call, rest in self.calls():
            for wrong in [*any_values(), {LOW: 1}, str(Wish(house, {})), Rule(house, {})]:
                with self.subTest(call=call, wrong=wrong):
                    self.refused(InvalidWish, wrong, call, wrong, *rest)

    def test_wrong_lot(self):
        wish = Wish(document_house(), {LOW: 1})
        for wrong in NO_LOTS:
            self.refused(InvalidLot, wrong, excess, wish, wrong)
        for wrong in no_pairs():
            with self.subTest(wrong):
                self.refused(UnknownPair, wrong, excess, wish, [LOW, wrong, LOW])
        again = tuple(["ann", "low"])
        self.refused(Duplicate, again, excess, wish, [LOW, again, "zed"])

    def test_wrong_pair(self):
        for wish in [Wish(document_house(), {LOW: 1}), Wish(document_house(), {LOW: 2})]:
            for call in (room, binding):
                for wrong in no_pairs():
                    with self.subTest(call=call, wrong=wrong):
                        self.refused(UnknownPair, wrong, call, wish, wrong)

    def test_impossible(self):
        for wish in wishes(71, 20):
            if not plain_possible(wish):
                for call, rest in [(full_lots, ()), (room, (wish.house.pairs()[0],)),
                                   (binding, (wish.house.pairs()[-1],))]:
                    lot = self.caught(Impossible, call, wish, *rest).lot
                    self.assertIs(type(lot), list)
                    self.assertEqual(lot, lot_of(wish.house, lot))
                    self.assertGreater(excesses(wish)[tuple(lot)], 0)

    def test_too_many(self):
        house = eleven_house()
        for wish in [Wish(house, {}), Wish(house, {("x", "a"): 9})]:
            self.refused(TooMany, 11, full_lots, wish)
        self.refused(TooMany, 16, full_lots, Wish(large_house(), {}))
        self.assertEqual(full_lots(Wish(ten_house(), {("x", "a"): 1})), [[], [("x", "a")]])
        self.caught(Impossible, full_lots, Wish(ten_house(), {("x", "a"): 2}))


class Answers(Case):
    def test_document_example(self):
        house = document_house()
        wish = Wish(house, {HIGH: 1, BOB: Ratio(3, 4)})
        self.assertEqual([excess(wish, [HIGH, BOB]).text(), answer(wish), factor(wish).text()],
                         ["1/8", ("lot", [HIGH, BOB]), "6/7"])
        even = Wish(house, {HIGH: 1, BOB: HALF})
        self.assertEqual(
            [str(answer(even)[1]).split("\n")[2], len(top_lots(even)), full_lots(even), room(even, LOW).text(),
             is_answer(even, ("lot", []))],
            ["high low: ann 1", 6, [[], [HIGH], [HIGH, BOB]], "1/2", False])

    def test_excess(self):
        draw = random.Random(73)
        for wish in wishes(74, 15):
            for lot in every_lot(wish.house):
                told = excess(wish=wish, lot=tuple(draw.sample(lot, len(lot))))
                self.assertIs(type(told), Ratio)
                self.assertEqual(fraction(told), plain_want(wish, lot) - plain_coming(wish.house, lot))

    def test_a_rule_exactly_if_no_lot_wants_more(self):
        counts = {"rule": 0, "lot": 0}
        for wish in wishes(75, 60):
            told = answer(wish=wish)
            self.assertIs(type(told), tuple)
            word, shown = told
            counts[word] += 1
            self.assertIs(is_possible(wish=wish), word == "rule")
            self.assertEqual(word == "rule", plain_possible(wish))
            self.assertIs(is_answer(wish=wish, told=told), True)
            if word == "rule":
                self.assertIs(type(shown), Rule)
                self.assertTrue(shown.house == wish.house)
                self.assertTrue(shown.wish() == wish)
            else:
                self.assertEqual(shown, lot_of(wish.house, shown))
                self.assertGreater(excesses(wish)[tuple(shown)], 0)
        self.assertGreater(min(counts.values()), 40)

    def test_worst_lot(self):
        for wish in wishes(77, 40):
            told = worst_lot(wish=wish)
            self.assertIs(type(told), list)
            self.assertEqual(told, lot_of(wish.house, told))
            found = excesses(wish)
            self.assertEqual(found[tuple(told)], max(found.values()))

    def test_top_lots_are_enough_for_independent_houses(self):
        for wish in wishes(79, 40):
            if wish.house.independent:
                found = excesses(wish)
                self.assertEqual(max(found[tuple(lot)] for lot in top_lots(wish)), max(found.values()))

    def test_largest_houses(self):
        draw = random.Random(81)
        for house in [large_house(), long_house(draw)]:
            pairs = house.pairs()
            base = Wish(house, {pair: long_share(draw) for pair in pairs})
            tight = base.scaled(factor(base))
            self.assertEqual(excess(tight, worst_lot(tight)), 0)
            word, rule = answer(tight)
            self.assertEqual(word, "rule")
            self.assertTrue(rule.wish() == tight)
            over = tight.scaled(Ratio(1) + TINY)
            word, lot = answer(over)
            self.assertEqual(word, "lot")
            self.assertTrue(Ratio(0).below(excess(over, lot)))
            self.assertEqual(excess(over, lot), excess(over, worst_lot(over)))
            self.assertEqual((is_possible(tight), is_possible(over)), (True, False))
            loose = tight.scaled(HALF)
            more = room(loose, pairs[6])
            grown = loose.with_number(pairs[6], loose.number(pairs[6]) + more)
            self.assertEqual(excess(grown, binding(loose, pairs[6])), 0)
            self.assertTrue(is_possible(grown))
            self.assertEqual(room(grown, pairs[6]), 0)

    def test_judging(self):
        house = document_house()
        wish = Wish(house, {HIGH: 1, BOB: HALF})
        word, rule = answer(wish)
        self.assertIs(is_answer(wish, (word, rule)), True)
        tied = House.tied([("ann", ["low", "high"]), ("bob", ["low"])], house.days())
        self.assertIs(is_answer(wish, ("rule", Rule(tied, {day: rule.shares(day) for day, _ in house.days()}))), True)
        for told in [["rule", rule], ("lot", rule), ("Rule", rule), (rule, "rule"), ("rule", rule, None), (rule,), rule,
                     ("rule", str(rule)), ("rule", wish), ("rule", Rule(house, {})), ("rule", Rule(tied_house(), {})),
                     ("rule", Rule(half_house(), {})), ("rule", [HIGH]), ("lot", [HIGH]), ("lot", [HIGH, BOB]),
                     ("rule", answer(wish.with_number(BOB, HALF - TINY))[1]), *any_values()]:
            with self.subTest(told):
                self.assertIs(is_answer(wish, told), False)
        over = wish.with_number(BOB, HALF + TINY)
        for told in [("lot", [HIGH, BOB]), ("lot", [BOB, HIGH]), ("lot", (HIGH, BOB))]:
            self.assertIs(is_answer(over, told), True)
        for told in [["lot", [HIGH, BOB]], ("lot", [HIGH]), ("lot", []), ("lot", [HIGH, BOB, BOB]), ("lot", [LOW, BOB]),
                     ("lot", [HIGH, BOB, "zed"]), ("lot", [HIGH, ["bob", "low"]]), ("rule", [HIGH, BOB]),
                     ("rule", rule), ("lots", [HIGH, BOB]), (None, [HIGH, BOB]),
                     ("lot", None), ("lot", "ann"), ("lot", {HIGH: 1, BOB: 1}), *any_values()]:
            with self.subTest(told):
                self.assertIs(is_answer(over, told), False)

    def test_all_lots_are_judged(self):
        for wish in wishes(83, 12):
            for lot, found in excesses(wish).items():
                self.assertIs(is_answer(wish, ("lot", list(lot)[::-1])), found > 0)

    def test_same_for_equal_arguments(self):
        house = document_house()
        tied = House.tied([("ann", ["low", "high"]), ("bob", ["low"])], house.days()[::-1])
        for numbers in [{LOW: HALF, BOB: HALF}, {LOW: 1, HIGH: 1, BOB: 1}]:
            one = Wish(house, numbers)
            other = Wish(tied, {pair: Ratio(1) * numbers[pair] for pair in reversed(list(numbers))})
            self.assertTrue(one == other)
            self.assertTrue(answer(one) == answer(other))
            self.assertEqual(worst_lot(one), worst_lot(other))

    def test_new_lists(self):
        wish = Wish(document_house(), {HIGH: 1, BOB: 1})
        for call in (worst_lot, full_lots, top_lots):
            at = wish.scaled(HALF) if call == full_lots else wish
            told = call(at)
            before = [list(item) for item in told]
            for item in told:
                if isinstance(item, list):
                    item.append("changed")
            told.clear()
            self.assertEqual([list(item) for item in call(at)], before)
        lot = answer(wish)[1]
        lot.clear()
        self.assertEqual(answer(wish)[1], [HIGH, BOB])
        lot = binding(wish.scaled(HALF), HIGH)
        lot.clear()
        self.assertIn(HIGH, binding(wish.scaled(HALF), HIGH))


class TopLots(Case):
    def test_by_definition(self):
        for wish in wishes(85, 30):
            parts = []
            for name in wish.house.names():
                pairs = [(name, kind) for kind in wish.house.kinds(name)]
                bounds = [0] + [fraction(wish.number(pair)) for pair in pairs]
                found = {tuple(pair for pair in pairs if fraction(wish.number(pair)) > bound) for bound in bounds}
                parts.append(found | {tuple(pairs)})
            expected = sorted([sum(picked, ()) for picked in itertools.product(*parts)])
            told = top_lots(wish=wish)
            self.assertEqual(sorted([tuple(lot) for lot in told]), expected)
            for lot in told:
                self.assertIs(type(lot), list)
                self.assertEqual(lot, lot_of(wish.house, lot))

    def test_largest(self):
        house = large_house()
        wish = Wish(house, {pair: Ratio(place % 4 + 1, 9) for place, pair in enumerate(house.pairs())})
        told = top_lots(wish)
        self.assertEqual(len(told), 625)
        self.assertEqual(len({tuple(lot) for lot in told}), 625)
        self.assertEqual(len(top_lots(Wish(house, {}))), 16)


class FullLots(Case):
    def test_by_definition(self):
        for wish in wishes(87, 40):
            if plain_possible(wish):
                expected = [list(lot) for lot, found in excesses(wish).items() if found == 0]
                self.assertEqual(full_lots(wish=wish), expected)

    def test_ten_pairs(self):
        house = ten_house()
        told = full_lots(order_wish(house, house.pairs()))
        for size in range(11):
            self.assertIn(house.pairs()[:size], told)
        for lot in told:
            self.assertEqual(excess(order_wish(house, house.pairs()), lot), 0)


class Rooms(Case):
    def test_by_all_lots(self):
        for wish in wishes(89, 30):
            if plain_possible(wish):
                found = excesses(wish)
                for pair in wish.house.pairs():
                    chance = fraction(wish.house.chance(pair))
                    expected = min(-found[lot] for lot in found if pair in lot) / chance
                    told = room(wish=wish, pair=pair)
                    self.assertIs(type(told), Ratio)
                    self.assertEqual(fraction(told), expected)
                    lot = binding(wish=wish, pair=pair)
                    self.assertEqual(lot, lot_of(wish.house, lot))
                    self.assertIn(pair, lot)
                    self.assertEqual(-found[tuple(lot)] / chance, expected)
                    grown = wish.with_number(pair, wish.number(pair) + told)
                    self.assertTrue(is_possible(grown))
                    self.assertFalse(is_possible(grown.with_number(pair, grown.number(pair) + TINY)))
                    self.assertTrue(Ratio(0).below(
                        excess(grown.with_number(pair, grown.number(pair) + TINY), lot)))

    def test_room_of_nothing(self):
        house = tied_house()
        self.assertEqual(room(Wish(house, {}), ("ann", "a")), 1)
        self.assertEqual(room(Wish(house, {("ann", "a"): 1}), ("ann", "a")), 0)


class Factors(Case):
    def test_by_all_lots(self):
        seen = 0
        for wish in wishes(91, 60):
            wanted = wants(wish)
            bounds = []
            for lot in every_lot(wish.house):
                want = sum([wanted[pair] for pair in lot], Fraction(0))
                if want > 0:
                    bounds.append(plain_coming(wish.house, lot) / want)
            told = factor(wish=wish)
            if not bounds:
                self.assertIsNone(told)
                continue
            seen += 1
            self.assertIs(type(told), Ratio)
            self.assertEqual(fraction(told), min(bounds))
            self.assertEqual(plain_possible(wish), min(bounds) >= 1)
            self.assertTrue(is_possible(wish.scaled(told)))
            self.assertFalse(is_possible(wish.scaled(told + TINY)))
        self.assertGreater(seen, 100)

    def test_edges(self):
        house = document_house()
        self.assertIsNone(factor(Wish(house, {})))
        self.assertEqual(factor(Wish(house, {LOW: TINY})), 10 ** 50)
        self.assertEqual(factor(Wish(house, {LOW: 10 ** 50})), TINY)
        self.assertEqual(factor(Wish(large_house(), {("w", "a"): 2})), HALF)


class AllWishes(Case):
    def test_mixtures_of_possible_wishes(self):
        """Full lots stay full together and in common [11]."""
        draw = random.Random(93)
        for house in small_houses(94, 20):
            wish = possible_wish(draw, house, 2)
            full = [set(lot) for lot in full_lots(wish)]
            for one, other in itertools.product(full, repeat=2):
                self.assertIn(one | other, full)
                self.assertIn(one & other, full)

    def test_comings_agree(self):
        for house in small_houses(95, 10):
            for lot in every_lot(house):
                self.assertEqual(coming(house, lot), ratio(plain_coming(house, lot)))


if __name__ == "__main__":
    unittest.main()
