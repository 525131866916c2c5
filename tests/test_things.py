"""Promises 181 to 185: unlike things."""

import itertools
import random
import unittest
from fractions import Fraction

from tests.checks import Case, any_values, half_house, large_house, tied_house
from tests.samples import (
    document_house, every_lot, every_order, fraction, long_house, long_share, numbers_of, random_order, random_wish,
    ratio, small_houses, there, wants, wish_with,
)
from tests.test_best import NO_NUMBERS, is_plain_roof, random_worths, value
from tests.test_houses import all_days
from tests.test_lots import NO_HOUSES, NO_LOTS
from tests.test_rules import no_days, no_orders
from tests.test_wishes import NO_DICTS, WRONG_KEYS, no_pairs
from winoften.best import best
from winoften.errors import (
    Duplicate, InvalidDay, InvalidHouse, InvalidLot, InvalidNumber, InvalidOrder, InvalidThings, InvalidWish,
    InvalidWorths, TooMany, UnknownPair,
)
from winoften.houses import House
from winoften.lots import lot_of, several
from winoften.ratios import Ratio
from winoften.rules import is_order
from winoften.several import several_answer, several_best, several_roof, several_winners, several_wish
from winoften.things import (
    answer_with, best_with, can_have_with, is_answer_with, order_wish_with, roof_with, served, things_given,
    winners_with,
)
from winoften.wishes import Wish

HALF = Ratio(1, 2)
LOW, HIGH, BOB = ("ann", "low"), ("ann", "high"), ("bob", "low")
TINY = Ratio(1, 10 ** 50)
CUP = {"cup": [("ann", "low")]}
NO_THINGS = [None, True, 0, Ratio(1), "", "cup", [], (), {}, [("cup", [])], {"cup": [], "": []}, {"Cup": []}, {None: []},
             {1: []}, {"a b": []}, {"cup": [], ("cup",): []}, {"abcdefghi": []}, {"c1": []},
             {"a": [], "b": [], "c": [], "d": [], "e": []}, tied_house()]
NAMES = ["cup", "jug", "a", "zed"]


def three_house():
    """The house of the document's example."""
    return House([("ann", [("a", 1)]), ("bob", [("a", 1)]), ("cy", [("a", HALF)])])


def random_things(draw, house):
    """One to four things, each for some or all pairs."""
    return {name: draw.sample(house.pairs(), draw.randint(0, len(house)))
            for name in draw.sample(NAMES, draw.randint(1, 4))}


def all_things(house, many):
    """So many things, each for all pairs."""
    return {name: house.pairs() for name in NAMES[:many]}


def ways(things, pairs):
    """All ways to hand out things to all of these pairs, by going through them."""
    found = []
    for names in itertools.permutations(things, len(pairs)):
        if all(pair in things[name] for pair, name in zip(pairs, names)):
            found.append(dict(zip([name for name, _ in pairs], names)))
    return found


def plain_served(things, pairs):
    """The greatest number of pairs that can be served together."""
    return max([size for size in range(len(pairs) + 1) for some in itertools.combinations(pairs, size)
                if ways(things, some)])


def plain_winners(house, things, order, day):
    """The pairs that are served on a day by an order, by the definition."""
    found = []
    for pair in order:
        if pair in there(house, day) and ways(things, [*found, pair]):
            found.append(pair)
    return found


def plain_have(house, things, lot):
    return sum([fraction(chance) * plain_served(things, [pair for pair in there(house, day) if pair in lot])
                for day, chance in house.days()], Fraction(0))


def plain_numbers(house, things, order):
    won = {pair: Fraction(0) for pair in house.pairs()}
    for day, chance in house.days():
        for pair in plain_winners(house, things, order, day):
            won[pair] += fraction(chance)
    return {pair: won[pair] / fraction(house.chance(pair)) for pair in won}


def mixed_wish(draw, house, things, orders=3):
    """The mixture of a few random orders, with things."""
    weights = [draw.randint(1, 4) for _ in range(orders)]
    mixed = {pair: Fraction(0) for pair in house.pairs()}
    for weight in weights:
        for pair, number in plain_numbers(house, things, random_order(draw, house)).items():
            mixed[pair] += number * weight / sum(weights)
    return wish_with(house, mixed)


def plain_excesses(wish, things):
    wanted = wants(wish)
    return {tuple(lot): sum([wanted[pair] for pair in lot], Fraction(0)) - plain_have(wish.house, things, lot)
            for lot in every_lot(wish.house)}


def turned(things):
    """The same things in another order, with tuples as lots."""
    return {name: tuple(things[name][::-1]) for name in reversed(list(things))}


class WrongArguments(Case):
    def calls(self):
        """All functions with things: the call, what stands before them, and what stands behind them."""
        house = document_house()
        return [(served, house, (None, None)), (winners_with, house, (None, None)), (things_given, house, (None, None)),
                (can_have_with, house, (None,)), (order_wish_with, house, (None,)), (answer_with, Wish(house, {}), ()),
                (is_answer_with, Wish(house, {}), (None,)), (best_with, house, (None,)), (roof_with, house, (None,))]

    def test_wrong_houses_and_wishes(self):
        for call, first, behind in self.calls():
            if isinstance(first, House):
                for wrong in NO_HOUSES:
                    self.refused(InvalidHouse, wrong, call, wrong, None, *behind)
            else:
                for wrong in [*any_values(), document_house()]:
                    self.refused(InvalidWish, wrong, call, wrong, None, *behind)

    def test_wrong_things(self):
        for call, first, behind in self.calls():
            for wrong in NO_THINGS:
                self.refused(InvalidThings, wrong, call, first, wrong, *behind)
            for wrong in NO_LOTS:
                self.refused(InvalidLot, wrong, call, first, {"cup": [LOW], "jug": wrong, "a": [None]}, *behind)
            for wrong in no_pairs():
                self.refused(UnknownPair, wrong, call, first, {"cup": [LOW], "jug": [LOW, wrong, LOW], "a": 1}, *behind)
            again = tuple(["ann", "low"])
            self.refused(Duplicate, again, call, first, {"cup": [LOW], "jug": [LOW, again, None], "a": 1}, *behind)
            late = {"cup": 1, "Jug": []}
            self.refused(InvalidThings, late, call, first, late, *behind)

    def test_wrong_lots_orders_days_and_worths(self):
        house = document_house()
        for wrong in NO_LOTS:
            self.refused(InvalidLot, wrong, served, house, CUP, wrong, None)
            self.refused(InvalidLot, wrong, can_have_with, house, CUP, wrong)
        for wrong in no_pairs():
            self.refused(UnknownPair, wrong, served, house, CUP, [LOW, wrong, LOW], None)
            self.refused(UnknownPair, wrong, can_have_with, house, CUP, [LOW, wrong, LOW])
        again = tuple(["ann", "low"])
        self.refused(Duplicate, again, served, house, CUP, [LOW, again, None], None)
        self.refused(Duplicate, again, can_have_with, house, CUP, [LOW, again, None])
        for wrong in no_orders():
            for call, behind in [(winners_with, (None,)), (things_given, (None,)), (order_wish_with, ())]:
                self.refused(InvalidOrder, wrong, call, house, CUP, wrong, *behind)
        for wrong in no_days():
            for call in (served, winners_with, things_given):
                self.refused(InvalidDay, wrong, call, house, CUP, [LOW], wrong)
        for call in (best_with, roof_with):
            for wrong in NO_DICTS:
                self.refused(InvalidWorths, wrong, call, house, CUP, wrong)
            for wrong in WRONG_KEYS:
                self.refused(UnknownPair, wrong, call, house, CUP, {LOW: -1, wrong: None})
            for wrong in NO_NUMBERS:
                self.refused(InvalidNumber, wrong, call, house, CUP, {LOW: -1, HIGH: wrong, "zed": 1})

    def test_many_pairs(self):
        kinds = [(kind, Ratio(1, 4)) for kind in "abc"]
        nine, eight = House([(name, kinds) for name in "xyz"]), House([("x", kinds), ("y", kinds), ("z", kinds[:2])])
        things = all_things(nine, 2)
        self.refused_with_equal(TooMany, 9, answer_with, Wish(nine, {}), things)
        self.refused(InvalidThings, None, answer_with, Wish(nine, {}), None)
        self.assertIs(is_answer_with(Wish(nine, {}), things, ("mixing", [(1, [])])), True)
        self.assertEqual(answer_with(Wish(eight, {}), all_things(eight, 2)), ("mixing", [(1, [])]))

    def test_arguments_stay(self):
        house, lots = document_house(), [[BOB, LOW], [HIGH]]
        things = {"jug": lots[0], "cup": lots[1]}
        answer_with(Wish(house, {LOW: 1}), things)
        things_given(house, things, [LOW, BOB], ("low", "low"))
        self.assertEqual(list(things.items()), [("jug", [BOB, LOW]), ("cup", [HIGH])])
        self.assertIs(things["jug"], lots[0])


class Serving(Case):
    def test_document_example(self):
        house = three_house()
        ann, bob, cy = house.pairs()
        things = {"cup": [ann, bob], "jug": [bob, cy]}
        day = ("a", "a", "a")
        self.assertEqual(
            [served(house, things, house.pairs(), day), winners_with(house, things, [bob, ann, cy], day),
             can_have_with(house, things, [ann, cy]).text()], [2, ["bob", "ann"], "3/2"])
        self.assertEqual([things_given(house, things, [ann, cy, bob], day),
                          str(order_wish_with(house, things, [ann, cy, bob]))],
                         [{"ann": "cup", "cy": "jug"}, "ann a 1; bob a 1/2; cy a 1"])
        self.assertEqual([answer_with(Wish(house, {ann: 1, bob: 1, cy: 1}), things)[0],
                          best_with(house, things, {bob: 1, cy: 2})[0].text()], ["lot", "2"])

    def test_by_all_ways(self):
        draw = random.Random(181)
        seen = set()
        for house in small_houses(182, 120):
            things = random_things(draw, house)
            order = random_order(draw, house)
            for day in all_days(house)[:30]:
                pairs = [pair for pair in there(house, day) if pair in order]
                told = served(house=house, things=things, lot=order, day=day)
                self.assertIs(type(told), int)
                self.assertEqual(told, plain_served(things, pairs))
                winners = plain_winners(house, things, order, day)
                names = [name for name, _ in winners]
                self.assertEqual(winners_with(house=house, things=things, order=order, day=day), names)
                given = things_given(house=house, things=things, order=order, day=day)
                self.assertEqual(list(given), names)
                self.assertIn(given, ways(things, winners))
                self.assertEqual(things_given(house, turned(things), tuple(order), day), given)
                seen.add((told, len(pairs)))
        self.assertGreaterEqual(seen, {(0, 0), (0, 1), (1, 1), (1, 2), (2, 2), (1, 3), (2, 3)})

    def test_a_thing_is_passed_on(self):
        house = House([(name, [("a", HALF)]) for name in ("v", "w", "x", "y")])
        v, w, x, y = house.pairs()
        things = {"d": [v], "c": [v, w], "b": [w, x], "a": [x, y]}
        day = ("a", "a", "a", "a")
        for order in itertools.permutations([v, w, x, y]):
            self.assertEqual(winners_with(house, things, order, day), [name for name, _ in order])
            self.assertEqual(things_given(house, things, order, day), {"v": "d", "w": "c", "x": "b", "y": "a"})
        self.assertEqual(served(house, {"a": [v, w, x, y]}, [v, w, x], day), 1)
        self.assertEqual(served(house, {"a": []}, [v, w, x], day), 0)

    def test_what_lots_can_have(self):
        draw = random.Random(183)
        for house in small_houses(184, 20, 5):
            things = random_things(draw, house)
            for lot in every_lot(house):
                told = can_have_with(house=house, things=things, lot=lot[::-1])
                self.assertIs(type(told), Ratio)
                self.assertEqual(fraction(told), plain_have(house, things, lot))
            order = random_order(draw, house)
            wish = order_wish_with(house=house, things=things, order=order)
            self.assertIs(type(wish), Wish)
            self.assertEqual(numbers_of(wish), list(plain_numbers(house, things, order).values()))


class Answers(Case):
    def checked(self, wish, things):
        told = answer_with(wish=wish, things=things)
        self.assertIs(type(told), tuple)
        word, shown = told
        if word == "mixing":
            self.assertLessEqual(len(shown), len(wish.house) + 1)
            mixed = {pair: Fraction(0) for pair in wish.house.pairs()}
            for share, order in shown:
                self.assertTrue(type(share) is Ratio and Ratio(0).below(share) and is_order(wish.house, order))
                for pair, number in plain_numbers(wish.house, things, order).items():
                    mixed[pair] += fraction(share) * number
            self.assertEqual(sum([fraction(share) for share, _ in shown]), 1)
            self.assertEqual(len({tuple(order) for _, order in shown}), len(shown))
            self.assertEqual(list(mixed.values()), numbers_of(wish))
        else:
            self.assertEqual(word, "lot")
            self.assertEqual(shown, lot_of(wish.house, shown))
            self.assertGreater(plain_excesses(wish, things)[tuple(shown)], 0)
        self.assertIs(is_answer_with(wish=wish, things=things, value=told), True)
        self.assertEqual(answer_with(wish, turned(things)), told)
        return word

    def test_a_mixing_exactly_if_no_lot_wants_too_much(self):
        draw = random.Random(185)
        words = {"mixing": 0, "lot": 0}
        for house in small_houses(186, 30, 5):
            things = random_things(draw, house)
            for wish in (random_wish(draw, house).scaled(2), mixed_wish(draw, house, things),
                         mixed_wish(draw, house, things, 1), random_wish(draw, house),
                         mixed_wish(draw, house, things, 1).scaled(Ratio(1) + TINY)):
                word = self.checked(wish, things)
                words[word] += 1
                self.assertEqual(word == "mixing", max(plain_excesses(wish, things).values()) <= 0)
        self.assertGreater(min(words.values()), 30)

    def test_eight_pairs_and_long_numbers(self):
        draw = random.Random(187)
        kinds = [(kind, long_share(draw, 2)) for kind in "ab"]
        house = House([(name, kinds) for name in ("w", "x", "y", "z")])
        things = {name: draw.sample(house.pairs(), 5) for name in NAMES}
        word, parts = answer_with(mixed_wish(draw, house, things, 5), things)
        self.assertEqual(word, "mixing")
        self.assertLessEqual(len(parts), 9)
        wish = Wish(house, {pair: long_share(draw) for pair in house.pairs()})
        for factor in (Ratio(1, 4), Ratio(1, 2), 1, 2):
            told = answer_with(wish.scaled(factor), things)
            self.assertIs(is_answer_with(wish.scaled(factor), things, told), True)
        self.assertEqual(told[0], "lot")

    def test_judged_mixings(self):
        house = three_house()
        ann, bob, cy = house.pairs()
        things = {"cup": [ann, bob], "jug": [bob, cy]}
        wish = order_wish_with(house, things, [ann, cy, bob]).mixed(order_wish_with(house, things, [bob]), HALF)
        parts = [(HALF, [ann, cy, bob]), (HALF, [bob])]
        for right in [parts, tuple(parts), parts[::-1], [(HALF, (ann, cy, bob)), (HALF, (bob,))]]:
            self.assertIs(is_answer_with(wish, things, ("mixing", right)), True)
        self.assertIs(is_answer_with(wish, all_things(house, 3), ("mixing", parts)), False)
        for wrong in [parts[:1], [parts[0], (HALF, [ann])], [*parts, (0, [cy])], [parts[0], (HALF, [bob, bob])],
                      [parts[0], [HALF, [bob]]], [parts[0], (Ratio(1, 4), [bob]), (Ratio(1, 4), [bob])], None, [],
                      [parts[0], (HALF - TINY, [bob])], [parts[0], (True, [bob])], [(HALF, [cy, bob, ann]), parts[1]]]:
            with self.subTest(wrong):
                self.assertIs(is_answer_with(wish, things, ("mixing", wrong)), False)
        for wrong in [["mixing", parts], ("mixing", parts, 1), ("mixing",), ("lot", parts), ("rule", parts), parts,
                      *any_values(), *[(word, thing) for word in ("mixing", "lot") for thing in any_values()]]:
            with self.subTest(wrong):
                self.assertIs(is_answer_with(wish, things, wrong), False)

    def test_judged_lots(self):
        draw = random.Random(188)
        seen = {True: 0, False: 0}
        for house in small_houses(189, 12, 4):
            things, wish = random_things(draw, house), random_wish(draw, house)
            for lot, excess in plain_excesses(wish, things).items():
                seen[excess > 0] += 1
                self.assertIs(is_answer_with(wish, things, ("lot", list(lot[::-1]))), excess > 0)
                self.assertIs(is_answer_with(wish, things, ("lot", lot)), excess > 0)
        self.assertGreater(min(seen.values()), 20)
        wish = Wish(document_house(), {LOW: 9})
        self.assertIs(is_answer_with(wish, CUP, ("lot", [LOW])), True)
        for wrong in [[LOW, LOW], [LOW, ("zed", "low")], [], {LOW: 1}, LOW]:
            self.assertIs(is_answer_with(wish, CUP, ("lot", wrong)), False)

    def test_like_things_are_as_several(self):
        draw = random.Random(190)
        for house in small_houses(191, 20):
            for many in (1, 2, 3, 4):
                things, order, worths = all_things(house, many), random_order(draw, house), random_worths(draw, house)
                wish = random_wish(draw, house)
                self.assertEqual(answer_with(wish, things)[0] == "mixing", several_answer(wish, many)[0] == "table")
                self.assertTrue(order_wish_with(house, things, order) == several_wish(house, order, many))
                self.assertEqual(can_have_with(house, things, order), several(house, order, many))
                self.assertEqual(best_with(house, things, worths), several_best(house, worths, many))
                self.assertEqual(roof_with(house, things, worths), several_roof(house, worths, many))
                for day, _ in house.days()[:9]:
                    self.assertEqual(winners_with(house, things, order, day),
                                     several_winners(house, order, day, many))


class Best(Case):
    def test_no_order_is_worth_more(self):
        draw = random.Random(192)
        for house in small_houses(193, 20, 4):
            things, worths = random_things(draw, house), random_worths(draw, house)
            worth, order = best_with(house=house, things=things, worths=worths)
            self.assertIs(type(worth), Ratio)
            self.assertEqual(order, best(house, worths)[1])
            plain = [sum([fraction(house.chance(pair)) * number * value(worths.get(pair, 0))
                          for pair, number in plain_numbers(house, things, other).items()], Fraction(0))
                     for other in [order, *every_order(house)]]
            self.assertEqual([fraction(worth)] * 2, [plain[0], max(plain)])
            found = roof_with(house=house, things=things, worths=worths)
            self.assertTrue(is_plain_roof(house, worths, found))
            self.assertEqual(sum([plain_have(house, things, lot) * value(weight) for lot, weight in found], Fraction(0)),
                             fraction(worth))
            for lot, weight in found:
                self.assertTrue(lot and type(weight) is Ratio and Ratio(0).below(weight))
                self.assertEqual(lot, lot_of(house, lot))
            self.assertEqual(best_with(house, turned(things), worths), (worth, order))

    def test_largest_houses(self):
        draw = random.Random(194)
        for house in (large_house(), long_house(draw)):
            things = {name: draw.sample(house.pairs(), 9) for name in NAMES}
            worths = {pair: long_share(draw) for pair in house.pairs()}
            worth, order = best_with(house, things, worths)
            bounds = [can_have_with(house, things, lot) * weight for lot, weight in roof_with(house, things, worths)]
            self.assertEqual(sum([fraction(bound) for bound in bounds]), fraction(worth))
            wish = order_wish_with(house, things, order)
            parts = [(HALF, order), (HALF, order[::-1])]
            mixed = wish.mixed(order_wish_with(house, things, order[::-1]), HALF)
            self.assertIs(is_answer_with(mixed, things, ("mixing", parts)), True)
            self.assertIs(is_answer_with(mixed.scaled(Ratio(1) + TINY), things, ("lot", house.pairs())), True)
            self.assertIs(is_answer_with(mixed, things, ("lot", house.pairs())), False)

    def test_same_for_equal_arguments(self):
        house, wish = half_house(), Wish(half_house(), {LOW: HALF, BOB: HALF})
        again = House.tied([("ann", ("low", "high")), ("bob", ["low"])], house.days()[::-1])
        other = Wish(again, {BOB: ratio(Fraction(1, 2)), LOW: HALF})
        things = {"cup": [LOW, BOB], "jug": [HIGH]}
        self.assertEqual(answer_with(wish, things), answer_with(other, turned(things)))
        answer_with(wish, things)[1].clear()
        things_given(house, things, [LOW], ("low", "low")).clear()
        winners_with(house, things, [LOW], ("low", "low")).clear()
        roof_with(house, things, {LOW: 1})[0][0].clear()
        self.assertEqual(answer_with(wish, things)[0], "mixing")
        self.assertEqual(roof_with(house, things, {LOW: 1}), [([LOW], 1)])


if __name__ == "__main__":
    unittest.main()
