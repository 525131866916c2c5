"""Promises 171 to 175: dealt days, and chains."""

import itertools
import random
import unittest
from fractions import Fraction

from tests.checks import Case, any_values, half_house, large_house, tied_house
from tests.samples import (
    document_house, every_lot, fraction, possible_wish, random_order, random_wish, ratio, small_houses, there,
)
from tests.test_houses import all_days
from tests.test_logs import plain_winner
from tests.test_lots import NO_HOUSES, NO_LOTS
from tests.test_rules import no_days, no_orders
from tests.test_wishes import NO_DICTS, WRONG_KEYS, no_pairs, no_wishes
from winoften.chains import chain, even_deal, is_chain
from winoften.deals import deal_with, dealt, is_near, met, near_deal, shows_deal, wins
from winoften.errors import (
    Duplicate, InvalidCount, InvalidDay, InvalidDays, InvalidDeal, InvalidHouse, InvalidLot, InvalidOrder,
    InvalidQuotas, InvalidWish, UnknownPair,
)
from winoften.houses import House
from winoften.lots import lot_of
from winoften.ratios import Ratio
from winoften.rules import order_wish
from winoften.wishes import Wish

HALF = Ratio(1, 2)
LOW, HIGH, BOB = ("ann", "low"), ("ann", "high"), ("bob", "low")
DAYS = [("high", "low"), ("low", "low"), ("low", None)]
NO_DAYS_LISTS = [None, True, 0, Ratio(1), "", "low", {}, {DAYS[0]: 1}, [], (), [DAYS[0]] * 101, [None] * 101,
                 tied_house()]
NO_QUOTAS = [None, True, 0, 1, Ratio(1), "", "ab", {}, [], (), [0, None], (0,), (0, 1, 2), (-1, None), (0, -1), (True, 1),
             (0, True), (None, 1), (Ratio(1), None), (0, Ratio(1)), ("0", None), (0, "1"), (HALF, None)]
NO_GIVEN = [None, True, False, -1, Ratio(1), HALF, "1", [], [1], (1,), {}]


def random_days(draw, house, most=4):
    return [draw.choice(all_days(house)) for _ in range(draw.randint(1, most))]


def every_deal(house, days):
    return [list(deal) for deal in itertools.product(*[[None, *[name for name, _ in there(house, day)]] for day in days])]


def plain_wins(house, days, deal):
    """How often each pair gets the thing, by the definition."""
    won = {pair: 0 for pair in house.pairs()}
    for day, name in zip(days, deal):
        for pair in there(house, day):
            if pair[0] == name:
                won[pair] += 1
    return won


def plain_met(house, days, lot):
    return len([day for day in days if set(there(house, day)) & set(lot)])


def plain_keeps(house, days, quotas, given, deal):
    won = plain_wins(house, days, deal)
    for pair, (low, high) in quotas.items():
        if won[pair] < low or (high is not None and won[pair] > high):
            return False
    return sum(won.values()) >= given


def plain_shows(house, days, quotas, given, word, shown):
    """Whether a pair or a lot shows that there is no deal, by the definition."""
    told = {pair: quotas.get(pair, (0, None)) for pair in house.pairs()}
    if word == "pair":
        low, high = told[shown]
        return high is not None and low > high
    if word == "much":
        return sum([told[pair][0] for pair in shown]) > plain_met(house, days, shown)
    highs = [high for pair, (_, high) in told.items() if pair not in shown]
    return None not in highs and plain_met(house, days, shown) + sum(highs) < given


def random_quotas(draw, house):
    quotas = {}
    for pair in draw.sample(house.pairs(), draw.randint(0, len(house))):
        low = draw.choice([0, 0, 1, 2])
        quotas[pair] = (low, draw.choice([None, low, low + 1, 0]))
    return quotas, draw.choice([0, 0, 1, 2, 3, 4])


def says(house, days, wish, pairs):
    return sum([fraction(wish.number(pair)) * len([day for day in days if pair in there(house, day)]) for pair in pairs],
               Fraction(0))


def plain_near(house, days, wish, deal):
    won = plain_wins(house, days, deal)
    groups = [[pair] for pair in house.pairs()] + [house.pairs()]
    groups += [[pair for pair in house.pairs() if pair[0] == name] for name in house.names()]
    for group in groups:
        said, count = says(house, days, wish, group), sum([won[pair] for pair in group])
        if not said - 1 < count < said + 1:
            return False
    return True


def is_full(house, days, deal):
    return all(name is not None or not there(house, day) for day, name in zip(days, deal))


def spread(house, deal):
    """On how many days the bidders get the thing, ascending."""
    return sorted([deal.count(name) for name in house.names()])


def is_plain_chain(house, days, deal, value):
    """Whether tuples of an index and a name are a chain, by the definition."""
    indices, names = [index for index, _ in value], [name for _, name in value]
    if not value or len(set(indices)) < len(value) or len(set(names)) < len(value):
        return False
    if any(name not in [other for other, _ in there(house, days[index])] for index, name in value):
        return False
    first = deal[indices[0]]
    if first is None or first in names:
        return False
    if any(deal[index] != name for index, name in zip(indices[1:], names)):
        return False
    return deal.count(names[-1]) <= deal.count(first) - 2


class WrongArguments(Case):
    def calls(self):
        """All functions of the stage: the call, what stands behind the days, and what stands there by name."""
        return [(wins, (None,)), (dealt, (None,)), (met, (None,)), (deal_with, (None,)), (shows_deal, (None, None)),
                (near_deal, (None,)), (is_near, (None, None)), (even_deal, ()), (chain, (None,)),
                (is_chain, (None, None))]

    def test_wrong_houses_and_days(self):
        house = document_house()
        for call, behind in self.calls():
            for wrong in NO_HOUSES:
                self.refused(InvalidHouse, wrong, call, wrong, None, *behind)
            for wrong in NO_DAYS_LISTS:
                self.refused(InvalidDays, wrong, call, house, wrong, *behind)
            for wrong in no_days():
                self.refused(InvalidDay, wrong, call, house, [DAYS[0], wrong, None], *behind)

    def test_wrong_deals(self):
        house = document_house()
        wrong_ones = [*any_values(), ["ann"] * 2, ["ann"] * 4, ["ann", "ann", "bob"], ["ann", "ann", "zed"],
                      ["ann", "ann", ["ann"]], ["ann", "ann", True], ["ann", "ann", ("ann",)], ["ann", "ann", LOW],
                      {0: "ann", 1: "ann", 2: "ann"}, "ann"]
        for call, behind in [(wins, ()), (chain, ()), (is_chain, (None,))]:
            for wrong in wrong_ones:
                with self.subTest(call=call, wrong=wrong):
                    self.refused(InvalidDeal, wrong, call, house, DAYS, wrong, *behind)
        for call, behind in [(chain, ()), (is_chain, (None,))]:
            for deal in every_deal(house, DAYS):
                if not is_full(house, DAYS, deal):
                    self.refused(InvalidDeal, deal, call, house, DAYS, deal, *behind)
        self.assertIsNone(chain(house, [(None, None)], [None]))

    def test_wrong_orders_and_lots(self):
        house = document_house()
        for wrong in no_orders():
            self.refused(InvalidOrder, wrong, dealt, house, DAYS, wrong)
        for wrong in NO_LOTS:
            self.refused(InvalidLot, wrong, met, house, DAYS, wrong)
        for wrong in no_pairs():
            self.refused(UnknownPair, wrong, met, house, DAYS, [LOW, wrong, LOW])
        again = tuple(["ann", "low"])
        self.refused(Duplicate, again, met, house, DAYS, [LOW, again, None])

    def test_wrong_quotas_and_given(self):
        house = document_house()
        for call, behind in [(deal_with, ()), (shows_deal, (None,))]:
            for wrong in NO_DICTS:
                self.refused(InvalidQuotas, wrong, call, house, DAYS, wrong, *behind, given=-1)
            for wrong in WRONG_KEYS:
                self.refused(UnknownPair, wrong, call, house, DAYS, {LOW: (2, 1), wrong: None}, *behind, given=-1)
            for wrong in NO_QUOTAS:
                self.refused(InvalidQuotas, wrong, call, house, DAYS, {LOW: (2, 1), HIGH: wrong, "zed": 0}, *behind)
            for wrong in NO_GIVEN:
                self.refused(InvalidCount, wrong, call, house, DAYS, {LOW: (2, 1)}, *behind, given=wrong)
            with self.assertRaises(TypeError):
                call(house, DAYS, {}, *behind, 1)

    def test_wrong_wishes(self):
        house = document_house()
        for wrong in no_wishes(house):
            self.refused(InvalidWish, wrong, near_deal, house, DAYS, wrong)
            self.refused(InvalidWish, wrong, is_near, house, DAYS, wrong, None)


class Counting(Case):
    def test_document_example(self):
        house = document_house()
        self.assertEqual(
            [dealt(house, DAYS, [LOW, BOB]), met(house, DAYS, [BOB]), wins(house, DAYS, ["ann", None, "ann"])],
            [["bob", "ann", "ann"], 2, {LOW: (1, 2), HIGH: (1, 1), BOB: (0, 2)}])
        self.assertEqual(
            [deal_with(house, DAYS, {BOB: (2, None)}, given=3),
             shows_deal(house, DAYS, {BOB: (3, None)}, ("much", [BOB]))], [("deal", ["bob", "bob", "ann"]), True])
        wish = order_wish(house, [HIGH, BOB])
        self.assertEqual(
            [near_deal(house, DAYS, wish), is_chain(house, DAYS, ["ann", "ann", "ann"], [(1, "bob")]),
             is_chain(house, DAYS, ["ann", "bob", "ann"], [(0, "bob")])], [("deal", ["ann", "bob", None]), True, False])

    def test_by_definition(self):
        draw = random.Random(171)
        for house in small_houses(172, 40):
            days = random_days(draw, house, 8)
            order = random_order(draw, house)
            deal = dealt(house=house, days=days, order=order)
            self.assertEqual(deal, [plain_winner(house, order, day) for day in days])
            deal = [draw.choice([None, *[name for name, _ in there(house, day)]]) for day in days]
            told = wins(house=house, days=tuple(days), deal=tuple(deal))
            won = plain_wins(house, days, deal)
            self.assertEqual(list(told.items()), [(pair, (won[pair], plain_met(house, days, [pair]))) for pair in won])
            for found in told.values():
                self.assertEqual([type(item) for item in (found, *found)], [tuple, int, int])
            self.assertEqual(met(house=house, days=days, lot=order), plain_met(house, days, order))


class Quotas(Case):
    def checked(self, house, days, quotas, given):
        told = deal_with(house=house, days=days, quotas=quotas, given=given)
        self.assertIs(type(told), tuple)
        word, shown = told
        if word == "deal":
            self.assertIs(type(shown), list)
            self.assertIn(shown, every_deal(house, days))
            self.assertTrue(plain_keeps(house, days, quotas, given, shown))
        else:
            self.assertTrue(plain_shows(house, days, quotas, given, word, shown))
            self.assertIn(word, ("pair", "much", "little"))
            if word != "pair":
                self.assertEqual(shown, lot_of(house, shown))
                self.assertIs(shows_deal(house, days, quotas, (word, tuple(shown[::-1])), given=given), True)
        self.assertIs(shows_deal(house=house, days=days, quotas=quotas, value=told, given=given), True)
        return word

    def test_by_all_deals(self):
        draw = random.Random(173)
        words = {"deal": 0, "pair": 0, "much": 0, "little": 0}
        for house in small_houses(174, 60, 5):
            for _ in range(6):
                days = random_days(draw, house)
                quotas, given = random_quotas(draw, house)
                word = self.checked(house, days, quotas, given)
                words[word] += 1
                fitting = [deal for deal in every_deal(house, days) if plain_keeps(house, days, quotas, given, deal)]
                self.assertEqual(word == "deal", bool(fitting))
                for other in ("much", "little"):
                    for lot in every_lot(house):
                        expected = plain_shows(house, days, quotas, given, other, lot)
                        self.assertFalse(expected and fitting)
                        self.assertIs(shows_deal(house, days, quotas, (other, lot), given=given), expected)
                for pair in house.pairs():
                    self.assertIs(shows_deal(house, days, quotas, ("pair", pair), given=given),
                                  plain_shows(house, days, quotas, given, "pair", pair))
        self.assertGreater(min(words.values()), 25)

    def test_judged_deals(self):
        draw = random.Random(175)
        seen = {True: 0, False: 0}
        for house in small_houses(176, 20, 4):
            days = random_days(draw, house, 3)
            quotas, given = random_quotas(draw, house)
            for deal in every_deal(house, days):
                expected = plain_keeps(house, days, quotas, given, deal)
                seen[expected] += 1
                self.assertIs(shows_deal(house, days, quotas, ("deal", tuple(deal)), given=given), expected)
        self.assertGreater(min(seen.values()), 30)

    def test_other_values(self):
        house = document_house()
        quotas = {LOW: (1, 0), BOB: (3, None), HIGH: (0, 0)}
        for told in [("deal", ["ann"]), ("deal", None), ["much", [BOB]], ("much", BOB), ("much", [BOB], 1), ("much",),
                     ("pair", [LOW]), ("pair", ["ann", "low"]), ("pair", BOB), ("pair", None), ("pair", ("zed", "low")),
                     ("much", [BOB, BOB]), ("much", [("zed", "low")]), ("little", []), ("little", [BOB]), ("lot", [BOB]),
                     *any_values(), *[(word, value) for word in ("deal", "pair", "little") for value in any_values()
                                      if value != LOW]]:
            with self.subTest(told):
                self.assertIs(shows_deal(house, DAYS, quotas, told), False)
        self.assertIs(shows_deal(house, DAYS, quotas, ("pair", LOW)), True)
        self.assertIs(shows_deal(house, DAYS, quotas, ("much", [BOB])), True)

    def test_more_given_than_days(self):
        house = document_house()
        self.assertEqual(self.checked(house, DAYS, {}, 4), "little")
        self.assertEqual(self.checked(house, DAYS, {}, 3), "deal")
        self.assertEqual(self.checked(house, [(None, None)], {}, 0), "deal")
        self.assertEqual(self.checked(house, [(None, None)], {}, 1), "little")
        self.assertEqual(self.checked(house, DAYS, {LOW: (0, 0), HIGH: (0, 10 ** 60)}, 10 ** 60), "little")
        self.assertEqual(deal_with(house, [(None, None)], {}), ("deal", [None]))
        self.assertIs(shows_deal(house, [(None, None)], {}, ("deal", [None])), True)
        self.assertIs(shows_deal(house, [(None, None)], {}, ("little", [])), False)
        self.assertEqual(deal_with(house, DAYS, {BOB: (2, 2)}), deal_with(house, tuple(DAYS), {BOB: (2, 2)}, given=0))

    def test_a_hundred_days(self):
        draw = random.Random(177)
        house = large_house()
        days = [draw.choice(all_days(house)) for _ in range(100)]
        deal = even_deal(house, days)
        won = wins(house, days, deal)
        quotas = {pair: (count, None) for pair, (count, _) in won.items()}
        given = len([name for name in deal if name is not None])
        word, found = deal_with(house, days, quotas, given=given)
        self.assertEqual(word, "deal")
        self.assertIs(shows_deal(house, days, quotas, (word, found), given=given), True)
        told = deal_with(house, days, quotas, given=given + 1)
        self.assertEqual(told[0], "little")
        self.assertIs(shows_deal(house, days, quotas, told, given=given + 1), True)
        quotas[house.pairs()[5]] = (won[house.pairs()[5]][0] + given, None)
        told = deal_with(house, days, quotas)
        self.assertEqual(told[0], "much")
        self.assertIs(shows_deal(house, days, quotas, told), True)


class NearDeals(Case):
    def checked(self, house, days, wish):
        word, shown = told = near_deal(house=house, days=days, wish=wish)
        self.assertIs(type(told), tuple)
        self.assertIs(type(shown), list)
        if word == "deal":
            self.assertTrue(plain_near(house, days, wish, shown))
            self.assertIs(is_near(house=house, days=days, wish=wish, value=shown), True)
        else:
            self.assertEqual(word, "lot")
            self.assertEqual(shown, lot_of(house, shown))
            self.assertGreater(says(house, days, wish, shown), plain_met(house, days, shown))
        return word

    def test_a_deal_exactly_if_no_lot_is_said_to_win_too_often(self):
        draw = random.Random(178)
        words = {"deal": 0, "lot": 0}
        for house in small_houses(179, 60, 5):
            for many in (3, 8):
                days = random_days(draw, house, many)
                for wish in (random_wish(draw, house), possible_wish(draw, house),
                             possible_wish(draw, house, 5).scaled(Ratio(1, 3))):
                    word = self.checked(house, days, wish)
                    words[word] += 1
                    fine = all(says(house, days, wish, lot) <= plain_met(house, days, lot) for lot in every_lot(house))
                    self.assertEqual(word == "deal", fine)
        self.assertGreater(min(words.values()), 40)

    def test_judged(self):
        draw = random.Random(180)
        seen = {True: 0, False: 0}
        for house in small_houses(181, 25, 5):
            days = random_days(draw, house, 4)
            for wish in (possible_wish(draw, house), random_wish(draw, house)):
                for deal in every_deal(house, days):
                    expected = plain_near(house, days, wish, deal)
                    seen[expected] += 1
                    self.assertIs(is_near(house, days, wish, tuple(deal)), expected)
        self.assertGreater(min(seen.values()), 50)
        wish = Wish(document_house(), {})
        for wrong in [*any_values(), [None, None], [None] * 4, ["zed", None, None], {0: None}, [[None] * 3]]:
            self.assertIs(is_near(document_house(), DAYS, wish, wrong), False)
        self.assertIs(is_near(document_house(), DAYS, wish, (None, None, None)), True)

    def test_a_hundred_days_and_long_numbers(self):
        draw = random.Random(182)
        house = large_house()
        for _ in range(6):
            days = [draw.choice([day for day, _ in house.days()][:draw.randint(5, 625)]) for _ in range(100)]
            wish = possible_wish(draw, house, 8).scaled(Ratio(draw.randint(1, 10 ** 60), 10 ** 60 + 7))
            deal = [draw.choice([None, *[name for name, _ in there(house, day)]]) for day in days]
            seen = wins(house, days, deal)
            exact = Wish(house, {pair: Ratio(won, many) for pair, (won, many) in seen.items() if many})
            self.assertTrue(is_near(house, days, exact, near_deal(house, days, exact)[1]))
            self.assertEqual(wins(house, days, near_deal(house, days, exact)[1]), seen)
            for some in (wish, exact.scaled(Ratio(9 ** 60, 10 ** 59 * 13)), exact.mixed(wish, HALF)):
                word, found = near_deal(house, days, some)
                if word == "deal":
                    self.assertTrue(plain_near(house, days, some, found))
                else:
                    self.assertGreater(says(house, days, some, found), plain_met(house, days, found))

    def test_same_for_equal_arguments(self):
        house = half_house()
        again = House.tied([("ann", ("low", "high")), ("bob", ["low"])], house.days()[::-1])
        one, other = Wish(house, {LOW: HALF, BOB: HALF}), Wish(again, {BOB: Ratio(2, 4), LOW: ratio(Fraction(1, 2))})
        self.assertEqual(near_deal(house, DAYS, one), near_deal(again, tuple(DAYS), other))
        near_deal(house, DAYS, one)[1].clear()
        even_deal(house, DAYS).clear()
        self.assertEqual(len(near_deal(house, DAYS, one)[1]), 3)


class EvenDeals(Case):
    def test_by_all_deals(self):
        draw = random.Random(183)
        chains = {True: 0, False: 0}
        for house in small_houses(184, 50, 6):
            days = random_days(draw, house, 5)
            full = [deal for deal in every_deal(house, days) if is_full(house, days, deal)]
            most = max([spread(house, deal) for deal in full])
            found = even_deal(house=house, days=days)
            self.assertIn(found, full)
            self.assertEqual(spread(house, found), most)
            for deal in full[:60]:
                told = chain(house=house, days=days, deal=deal)
                self.assertEqual(told is None, spread(house, deal) == most)
                chains[told is None] += 1
                if told is not None:
                    self.assertIs(type(told), list)
                    self.assertTrue(all([type(item) is tuple for item in told]))
                    self.assertTrue(is_plain_chain(house, days, deal, told))
                    self.assertIs(is_chain(house=house, days=days, deal=tuple(deal), value=tuple(told)), True)
                    moved = list(deal)
                    for index, name in told:
                        moved[index] = name
                    self.assertGreater(spread(house, moved), spread(house, deal))
        self.assertGreater(min(chains.values()), 50)

    def test_judged(self):
        draw = random.Random(185)
        seen = {1: 0, 2: 0, 3: 0}
        for house in small_houses(186, 120, 6):
            days = random_days(draw, house, 6)
            deal = [draw.choice([name for name, _ in there(house, day)] or [None]) for day in days]
            if draw.random() < 0.5:
                deal = [(there(house, day) or [(None, None)])[0][0] for day in days]
            items = [(index, name) for index in range(len(days)) for name in house.names()]
            values = [(item,) for item in items] + list(itertools.permutations(items, 2))[:300]
            values += [[draw.choice(items) for _ in range(3)] for _ in range(100)]
            values += [chain(house, days, deal) or []]
            for value in values:
                expected = is_plain_chain(house, days, deal, list(value))
                if expected:
                    seen[len(value)] += 1
                self.assertIs(is_chain(house, days, deal, list(value)), expected)
        self.assertGreater(seen[1], 20)
        self.assertGreater(seen[2], 5)

    def test_a_long_chain(self):
        house = House([(name, [("a", HALF)]) for name in ("v", "w", "x", "y")])
        days = [("a", "a", None, None), ("a", None, None, None), (None, "a", "a", None), (None, None, "a", "a")]
        deal = ["v", "v", "w", "x"]
        self.assertEqual(chain(house, days, deal), [(0, "w"), (2, "x"), (3, "y")])
        self.assertEqual(spread(house, even_deal(house, days)), [1, 1, 1, 1])
        self.assertIs(is_chain(house, days, deal, [(0, "w"), (2, "x"), (3, "y")]), True)
        for wrong in [[(0, "w"), (2, "x")], [(2, "x"), (3, "y")], [(3, "y"), (2, "x"), (0, "w")], [(0, "w"), (3, "y")],
                      [(0, "w"), (2, "w")], [(0, "v"), (2, "x")], [(0, "x")], [(1, "w"), (2, "x"), (3, "y")],
                      [(0, "w"), (2, "x"), (3, "y"), (3, "y")], [[0, "w"], [2, "x"], [3, "y"]], (0, "w"),
                      [(0, "w", 1), (2, "x"), (3, "y")], [(Ratio(0), "w"), (2, "x"), (3, "y")],
                      [(False, "w"), (2, "x"), (3, "y")], [(0, "w"), (2, "x"), (-1, "y")], [(0, "w"), (2, "x"), (4, "y")],
                      [(0, None), (2, "x"), (3, "y")], [(0, ["w"]), (2, "x"), (3, "y")], [], *any_values()]:
            with self.subTest(wrong):
                self.assertIs(is_chain(house, days, deal, wrong), False)

    def test_a_hundred_days(self):
        draw = random.Random(187)
        house = large_house()
        for many in (625, 100, 20):
            days = [draw.choice([day for day, _ in house.days()][:many]) for _ in range(100)]
            found = even_deal(house, days)
            self.assertIsNone(chain(house, days, found))
            self.assertEqual(even_deal(house, tuple(days)), found)


if __name__ == "__main__":
    unittest.main()
