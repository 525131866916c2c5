"""Promises 161 to 165: parts of wishes."""

import random
import unittest
from fractions import Fraction

from tests.checks import Case, any_values, half_house, large_house, tied_house
from tests.samples import (
    document_house, every_lot, fraction, long_house, long_share, numbers_of, plain_coming, plain_comings,
    plain_possible, plain_want, possible_wish, random_wish, ratio, small_houses, wants, wish_with,
)
from tests.test_best import NO_NUMBERS, random_worths, value
from tests.test_even import plain_levels, steps_of
from tests.test_lots import NO_LOTS
from tests.test_wishes import NO_AMOUNTS, NO_DICTS, WRONG_KEYS, no_pairs
from winoften.best import best
from winoften.errors import (
    Duplicate, InvalidLot, InvalidNumber, InvalidWish, InvalidWorths, UnknownPair,
)
from winoften.even import even, even_steps
from winoften.houses import House
from winoften.less import (
    best_part, even_part, greatest_part, growing, held_down, is_part_roof, part_roof, part_steps, part_total,
    shows_part, shows_part_steps,
)
from winoften.lots import lot_of
from winoften.possible import excess, factor, is_possible, worst_lot
from winoften.ratios import Ratio
from winoften.wishes import Wish

HALF = Ratio(1, 2)
LOW, HIGH, BOB = ("ann", "low"), ("ann", "high"), ("bob", "low")
TINY = Ratio(1, 10 ** 50)


def two_house():
    """The house of the document's example."""
    return House([("ann", [("a", HALF)]), ("bob", [("a", HALF)])])


def wishes(seed, many, most=5):
    draw = random.Random(seed)
    found = []
    for house in small_houses(seed + 1, many, most):
        found += [random_wish(draw, house), random_wish(draw, house).scaled(2), possible_wish(draw, house, 2),
                  Wish(house, {})]
        found.append(possible_wish(draw, house).mixed(random_wish(draw, house), Ratio(2, 3)))
    return found


def large_wishes(seed):
    draw = random.Random(seed)
    found = []
    for house in (large_house(), long_house(draw)):
        wish = Wish(house, {pair: long_share(draw) for pair in house.pairs()})
        found += [wish, wish.with_number(house.pairs()[3], 0), wish.scaled(factor(wish))]
    return found


def plain_held(wish, lot):
    """To what a lot holds a wish down, by the definition."""
    return plain_coming(wish.house, lot) + plain_want(wish, [pair for pair in wish.house.pairs() if pair not in lot])


def plain_most(wish, lot, comings):
    """The greatest total that the pairs of a lot have in a part: by all lots within it."""
    wanted = wants(wish)
    return min([comings[frozenset(core)] + sum([wanted[pair] for pair in lot if pair not in core], Fraction(0))
                for core in every_lot(wish.house) if set(core) <= set(lot)])


def plain_best_part(wish, worths):
    """The numbers of the best part, each pair growing as [162] tells it, by all lots."""
    house, comings = wish.house, plain_comings(wish.house)
    order = [pair for pair in house.pairs() if value(worths.get(pair, 0)) > 0]
    order = sorted(order, key=lambda pair: -value(worths[pair]))
    won = {pair: Fraction(0) for pair in house.pairs()}
    for pair in order:
        rooms = [comings[frozenset(lot)] - sum([won[other] for other in lot], Fraction(0))
                 for lot in every_lot(house) if pair in lot]
        won[pair] = min(wants(wish)[pair], *rooms)
    return {pair: won[pair] / fraction(house.chance(pair)) for pair in won}


def plain_heights(wish):
    """By what the numbers above 0 are multiplied if they grow evenly without end, by all lots."""
    pairs = [pair for pair in wish.house.pairs() if wish.number(pair) != 0]
    units = [(frozenset([pair]), wants(wish)[pair]) for pair in pairs]
    return dict(zip(pairs, plain_levels(units, plain_comings(wish.house))))


def plain_total(wish, number):
    """The total of a greatest part of a multiplied wish, by all lots."""
    return min([plain_held(wish.scaled(number), lot) for lot in every_lot(wish.house)])


class WrongArguments(Case):
    def calls(self):
        """All functions of the stage, with what stands behind the wish."""
        return [(held_down, (None,)), (greatest_part, ()), (shows_part, (None,)), (best_part, (None,)),
                (part_roof, (None,)), (is_part_roof, (None, None, None)), (even_part, ()), (part_steps, ()),
                (shows_part_steps, (None, None)), (growing, ()), (part_total, (None,))]

    def test_wrong_wishes(self):
        for call, behind in self.calls():
            for wrong in [*any_values(), document_house(), {LOW: 1}, "ann low 1"]:
                self.refused(InvalidWish, wrong, call, wrong, *behind)

    def test_wrong_lots(self):
        wish = Wish(document_house(), {LOW: 1})
        for wrong in NO_LOTS:
            self.refused(InvalidLot, wrong, held_down, wish, wrong)
        for wrong in no_pairs():
            self.refused(UnknownPair, wrong, held_down, wish, [LOW, wrong, LOW])
        again = tuple(["ann", "low"])
        self.refused(Duplicate, again, held_down, wish, [LOW, again, None])

    def test_wrong_worths_and_numbers(self):
        wish = Wish(document_house(), {LOW: 1})
        for call, behind in [(best_part, ()), (part_roof, ()), (is_part_roof, (None, None))]:
            for wrong in NO_DICTS:
                self.refused(InvalidWorths, wrong, call, wish, wrong, *behind)
            for wrong in WRONG_KEYS:
                self.refused(UnknownPair, wrong, call, wish, {LOW: -1, wrong: None}, *behind)
            for wrong in NO_NUMBERS:
                self.refused(InvalidNumber, wrong, call, wish, {LOW: -1, HIGH: wrong, "zed": 1}, *behind)
        for wrong in NO_NUMBERS:
            self.refused(InvalidNumber, wrong, is_part_roof, wish, {LOW: 1}, None, wrong)
        for wrong in NO_AMOUNTS:
            self.refused(InvalidNumber, wrong, part_total, wish, wrong)


class GreatestParts(Case):
    def test_document_example(self):
        house = two_house()
        ann, bob = house.pairs()
        wish = Wish(house, {ann: 1, bob: 1})
        part, lot = greatest_part(wish)
        self.assertEqual(
            [part.total().text(), lot, held_down(wish, []).text(), str(even_part(wish)),
             [(x.text(), some) for x, some in growing(wish)]],
            ["3/4", [ann, bob], "1", "ann a 3/4; bob a 3/4", [("0", []), ("3/4", [ann, bob])]])
        worth, part = best_part(wish, {ann: 2, bob: 1})
        self.assertEqual(
            [worth.text(), str(part), is_part_roof(wish, {ann: 1}, [([ann], [], 1)], HALF),
             part_total(wish, HALF).text()], ["5/4", "ann a 1; bob a 1/2", True, "1/2"])

    def test_no_lot_holds_down_further(self):
        for wish in wishes(161, 40):
            told = greatest_part(wish=wish)
            self.assertIs(type(told), tuple)
            part, lot = told
            self.assertIs(type(part), Wish)
            self.assertTrue(plain_possible(part) and part.within(wish))
            self.assertEqual(lot, lot_of(wish.house, lot))
            held = [plain_held(wish, some) for some in every_lot(wish.house)]
            self.assertEqual(fraction(part.total()), min(held))
            self.assertEqual(plain_held(wish, lot), min(held))
            self.assertEqual(part.total(), wish.total() - excess(wish, worst_lot(wish)))
            self.assertIs(shows_part(wish=wish, value=told), True)

    def test_held_down(self):
        for wish in wishes(163, 10, 4):
            for lot in every_lot(wish.house):
                told = held_down(wish=wish, lot=lot[::-1])
                self.assertIs(type(told), Ratio)
                self.assertEqual(fraction(told), plain_held(wish, lot))

    def test_judged(self):
        house = two_house()
        ann, bob = house.pairs()
        wish = Wish(house, {ann: 1, bob: 1})
        part = Wish(house, {ann: 1, bob: HALF})
        self.assertIs(shows_part(wish, (part, [bob, ann])), True)
        self.assertIs(shows_part(wish, (part, (ann, bob))), True)
        for wrong in [(part, [ann]), (part, []), (part, [ann, bob, ann]), (part, None), [part, [ann, bob]],
                      (part, [ann, bob], 1), (part.with_number(bob, HALF - TINY), [ann, bob]), ([ann, bob], part),
                      (part.with_number(bob, HALF + TINY), [ann, bob]), (wish, []), (wish, [ann, bob]), part,
                      (Wish(half_house(), {}), []), (str(part), [ann, bob]), (part, [ann, ("zed", "a")]), *any_values()]:
            with self.subTest(wrong):
                self.assertIs(shows_part(wish, wrong), False)
        free = Wish(house, {ann: HALF})
        self.assertIs(shows_part(free, (free, [])), True)
        self.assertIs(shows_part(free, (Wish(house, {bob: HALF}), [])), False)
        self.assertIs(shows_part(free, (free, [bob])), False)
        self.assertIs(shows_part(Wish(house, {}), (Wish(house, {}), [])), True)

    def test_largest_houses(self):
        for wish in large_wishes(165):
            part, lot = greatest_part(wish)
            self.assertTrue(part.within(wish) and is_possible(part))
            self.assertEqual(part.total(), held_down(wish, lot))
            self.assertIs(shows_part(wish, (part, lot)), True)
            self.assertEqual(part_total(wish, 1), part.total())


class BestParts(Case):
    def test_as_they_come_about(self):
        draw = random.Random(166)
        for wish in wishes(167, 30):
            worths = random_worths(draw, wish.house)
            told = best_part(wish=wish, worths=worths)
            self.assertIs(type(told), tuple)
            worth, part = told
            self.assertIs(type(worth), Ratio)
            expected = plain_best_part(wish, worths)
            self.assertEqual(numbers_of(part), list(expected.values()))
            self.assertEqual(fraction(worth), sum(
                [fraction(wish.house.chance(pair)) * expected[pair] * value(worths.get(pair, 0)) for pair in expected],
                Fraction(0)))

    def test_roofs(self):
        draw = random.Random(168)
        for wish in wishes(169, 30):
            worths = random_worths(draw, wish.house)
            worth, _ = best_part(wish, worths)
            found = part_roof(wish=wish, worths=worths)
            bound = Fraction(0)
            comings = plain_comings(wish.house)
            for lot, core, weight in found:
                self.assertEqual((lot, core), (lot_of(wish.house, lot), lot_of(wish.house, core)))
                self.assertTrue(lot and set(core) <= set(lot) and type(weight) is Ratio and Ratio(0).below(weight))
                self.assertTrue(all([type(item) is list for item in (lot, core)]))
                others = [pair for pair in lot if pair not in core]
                held = comings[frozenset(core)] + plain_want(wish, others)
                self.assertEqual(held, plain_most(wish, lot, comings))
                bound += held * fraction(weight)
            self.assertEqual(bound, fraction(worth))
            for pair in wish.house.pairs():
                weights = sum([fraction(weight) for lot, _, weight in found if pair in lot], Fraction(0))
                self.assertGreaterEqual(weights, value(worths.get(pair, 0)))
            self.assertIs(is_part_roof(wish=wish, worths=worths, told=found, most=worth), True)
            self.assertIs(is_part_roof(wish, worths, found, worth - TINY), False)

    def test_no_part_is_worth_more(self):
        draw = random.Random(170)
        for wish in wishes(171, 15):
            worths = random_worths(draw, wish.house)
            worth, _ = best_part(wish, worths)
            for _ in range(4):
                numbers = {pair: fraction(number) * Fraction(draw.randint(0, 4), 4)
                           for pair, number in wish.numbers().items()}
                part = wish_with(wish.house, numbers)
                if plain_possible(part):
                    plain = sum([plain_want(part, [pair]) * value(worths.get(pair, 0)) for pair in numbers], Fraction(0))
                    self.assertLessEqual(plain, fraction(worth))

    def test_of_great_wishes_all_is_as_for_best(self):
        draw = random.Random(172)
        for house in small_houses(173, 20):
            worths = random_worths(draw, house)
            wish = Wish(house, {pair: 1 for pair in house.pairs()})
            self.assertEqual(best_part(wish, worths)[0], best(house, worths)[0])

    def test_judged_roofs(self):
        house = document_house()
        wish = Wish(house, {LOW: 1, HIGH: HALF, BOB: 1})
        worths = {LOW: 2, BOB: 1, HIGH: -1}
        worth, _ = best_part(wish, worths)
        self.assertEqual(worth, Ratio(5, 4))
        right = [([LOW], [], 1), ([BOB, LOW], [LOW, BOB], 1)]
        self.assertIs(is_part_roof(wish, worths, right, worth), True)
        self.assertIs(is_part_roof(wish, worths, tuple(right), worth), True)
        self.assertIs(is_part_roof(wish, worths, [((LOW,), (), Ratio(1)), *right[1:]], worth), True)
        self.assertIs(is_part_roof(wish, worths, [([LOW], [LOW], 1), *right[1:]], worth), True)
        self.assertIs(is_part_roof(wish, worths, [*right, ([HIGH], [], 1)], worth), False)
        self.assertIs(is_part_roof(wish, worths, [*right, ([HIGH], [], 1)], worth + Ratio(1, 4)), True)
        self.assertIs(is_part_roof(wish, worths, [right[0], right[0], ([BOB], [], 1)], 2), True)
        for wrong in [right[:1], right[1:], [], [([LOW], [], 2)], [([BOB], [], 9)], [([LOW], [], 1 - TINY.top), right[1]], [([LOW], [], 0), right[1]],
                      [*right, ([], [], 1)], [*right, ([HIGH], [], 0)], [*right, ([HIGH], [], -1)],
                      [*right, ([HIGH], [], True)], [*right, ([HIGH], [LOW], 1)], [*right, ([HIGH, HIGH], [], 1)],
                      [*right, ([HIGH], [HIGH, HIGH], 1)], [*right, ([HIGH], 1)], [*right, [[HIGH], [], 1]],
                      [*right, ([HIGH], None, 1)], [*right, (None, [], 1)], [*right, ([HIGH], [], 1, 1)],
                      [([LOW], [], Ratio(1) - TINY), right[1]], [*right, ([("zed", "low")], [], 1)], *any_values()]:
            with self.subTest(wrong):
                self.assertIs(is_part_roof(wish, worths, wrong, 99), False)
        self.assertIs(is_part_roof(wish, {LOW: 0, BOB: -1}, [], 0), True)
        self.assertIs(is_part_roof(wish, {}, (), -1), False)

    def test_largest_houses(self):
        draw = random.Random(174)
        for wish in large_wishes(175):
            worths = {pair: long_share(draw) - Ratio(1, 9) for pair in wish.house.pairs()}
            worth, part = best_part(wish, worths)
            self.assertTrue(part.within(wish) and is_possible(part))
            self.assertIs(is_part_roof(wish, worths, part_roof(wish, worths), worth), True)
            self.assertIs(is_part_roof(wish, worths, part_roof(wish, worths), worth - TINY), False)

    def test_new_lists(self):
        house, worths = document_house(), {LOW: 2, BOB: 1}
        wish = Wish(house, {LOW: 1, BOB: 1})
        told = part_roof(wish, worths)
        kept = [(list(lot), list(core), weight) for lot, core, weight in told]
        for lot, core, _ in told:
            lot.clear()
            core.append(HIGH)
        self.assertEqual(part_roof(wish, worths), kept)


class EvenParts(Case):
    def test_by_all_lots(self):
        for wish in wishes(176, 30):
            heights = {pair: min(Fraction(1), height) for pair, height in plain_heights(wish).items()}
            part = even_part(wish=wish)
            self.assertEqual(numbers_of(part), [fraction(number) * heights.get(pair, 0)
                                                for pair, number in wish.numbers().items()])
            self.assertTrue(plain_possible(part) and part.within(wish))
            steps = part_steps(wish=wish)
            self.assertEqual([(fraction(height), lot) for height, lot in steps], steps_of(heights))
            for step in steps:
                self.assertEqual([type(item) for item in (step, *step)], [tuple, Ratio, list])
            self.assertIs(shows_part_steps(wish=wish, part=part, steps=steps), True)
            turned = tuple([(height, tuple(lot[::-1])) for height, lot in steps])
            self.assertIs(shows_part_steps(wish, part, turned), True)

    def test_no_part_is_more_even(self):
        draw = random.Random(178)
        for wish in wishes(179, 20):
            positive = [pair for pair, number in wish.numbers().items() if number != 0]
            part = even_part(wish)
            ratios = sorted([fraction(part.number(pair)) / fraction(wish.number(pair)) for pair in positive])
            for _ in range(6):
                numbers = {pair: fraction(wish.number(pair)) * Fraction(draw.randint(0, 6), 6) for pair in positive}
                numbers = {pair: (3 * numbers[pair] + fraction(part.number(pair))) / 4 for pair in positive}
                other = Wish(wish.house, {pair: ratio(number) for pair, number in numbers.items()})
                if plain_possible(other):
                    found = sorted([numbers[pair] / fraction(wish.number(pair)) for pair in positive])
                    self.assertLessEqual(found, ratios)

    def test_great_wishes(self):
        for house in small_houses(180, 20):
            wish = Wish(house, {pair: 1 for pair in house.pairs()})
            self.assertTrue(even_part(wish) == even(house))
            self.assertEqual(part_steps(wish), even_steps(house))

    def test_judged_steps(self):
        house = House.tied([("ann", ["a"]), ("bob", ["a"]), ("cy", ["a"]), ("dan", ["a"])],
                           [(("a", "a", None, None), HALF), ((None, None, "a", "a"), HALF)])
        ann, bob, cy, dan = house.pairs()
        wish = Wish(house, {ann: 1, bob: 1, cy: HALF})
        part, steps = even_part(wish), part_steps(wish)
        self.assertEqual(steps, [(HALF, [ann, bob]), (Ratio(1), [cy])])
        for right in [steps, tuple(steps), [(HALF, (bob, ann)), (1, (cy,))]]:
            self.assertIs(shows_part_steps(wish, part, right), True)
        for wrong in [
            steps[::-1], steps[:1], steps[1:], [], [(HALF, [ann]), (HALF, [bob]), (1, [cy])], [list(steps[0]), steps[1]],
            [(HALF, [ann, bob, cy])], [steps[0], (1, [cy, dan])], [steps[0], (1, [cy]), (Ratio(3, 2), [dan])],
            [(0, [dan]), *steps], [(HALF, [ann, bob, ann]), steps[1]], [(HALF, [ann, bob]), (1, [cy, cy])],
            [(HALF - TINY, [ann, bob]), steps[1]], [*steps, (1, [])], [(0, []), *steps], [steps[0], (True, [cy])],
            [steps[0], (1, [cy], 1)], [(HALF, None), steps[1]], [(HALF, [ann]), (1, [cy])], *any_values(),
        ]:
            if wrong != ():
                with self.subTest(wrong):
                    self.assertIs(shows_part_steps(wish, part, wrong), False)
        for other in [part.with_number(dan, TINY), part.with_number(cy, HALF - TINY), part.scaled(HALF), wish, str(part),
                      Wish(house, {ann: Ratio(3, 4), bob: Ratio(1, 4), cy: HALF}), Wish(tied_house(), {}), *any_values()]:
            with self.subTest(other):
                self.assertIs(shows_part_steps(wish, other, steps), False)
        uneven = Wish(house, {ann: Ratio(3, 4), bob: Ratio(1, 4), cy: HALF})
        self.assertIs(shows_part_steps(wish, uneven, [(Ratio(1, 4), [bob]), (Ratio(3, 4), [ann]), (1, [cy])]), False)
        lesser = Wish(house, {ann: Ratio(1, 4), bob: Ratio(1, 4), cy: HALF})
        self.assertIs(shows_part_steps(wish, lesser, [(Ratio(1, 4), [ann, bob]), (1, [cy])]), False)
        self.assertIs(shows_part_steps(wish, lesser.with_number(cy, Ratio(1, 8)), [(Ratio(1, 4), [ann, bob, cy])]), False)
        empty = Wish(house, {})
        self.assertEqual((part_steps(empty), even_part(empty) == empty), ([], True))
        self.assertIs(shows_part_steps(empty, empty, ()), True)
        self.assertIs(shows_part_steps(empty, empty, [(1, [ann])]), False)

    def test_largest_houses(self):
        for wish in large_wishes(181):
            part, steps = even_part(wish), part_steps(wish)
            self.assertIs(shows_part_steps(wish, part, steps), True)
            self.assertEqual(part.total(), part_total(wish, 1))


class Growing(Case):
    def test_by_all_lots(self):
        draw = random.Random(182)
        for wish in wishes(183, 30, 4):
            positive = [pair for pair, number in wish.numbers().items() if number != 0]
            told = growing(wish=wish)
            self.assertEqual(told[0], (0, []))
            self.assertIs(type(told[0][0]), Ratio)
            self.assertEqual(told[-1][1], positive)
            for place, (x, lot) in enumerate(told):
                self.assertEqual(lot, lot_of(wish.house, lot))
                after = told[place + 1][0] if place + 1 < len(told) else x + 3
                self.assertTrue(x.below(after))
                if place + 1 < len(told):
                    self.assertLess(set(lot), set(told[place + 1][1]))
                for share in (0, Fraction(1, 3), 1):
                    number = ratio(fraction(x) + (fraction(after) - fraction(x)) * share)
                    others = [pair for pair in wish.house.pairs() if pair not in lot]
                    line = plain_coming(wish.house, lot) + fraction(number) * plain_want(wish, others)
                    self.assertEqual(plain_total(wish, number), line)
                    found = part_total(wish=wish, number=number)
                    self.assertIs(type(found), Ratio)
                    self.assertEqual(fraction(found), line)
            for number in (0, 1, 7, Ratio(draw.randint(1, 9), 5)):
                self.assertEqual(fraction(part_total(wish, number)), plain_total(wish, number))

    def test_nothing_wanted(self):
        wish = Wish(document_house(), {})
        self.assertEqual((growing(wish), part_total(wish, 5)), ([(0, [])], 0))

    def test_largest_houses(self):
        for wish in large_wishes(184):
            told = growing(wish)
            for x, lot in told:
                self.assertEqual(held_down(wish.scaled(x), lot), part_total(wish, x))
            self.assertEqual(factor(wish), told[1][0])

    def test_new_and_equal_results(self):
        house = document_house()
        again = House.tied([("ann", ("low", "high")), ("bob", ["low"])], house.days()[::-1])
        one, other = Wish(house, {LOW: 1, BOB: HALF}), Wish(again, {BOB: Ratio(2, 4), LOW: Ratio(1)})
        for call in (growing, part_steps, greatest_part, even_part):
            self.assertTrue(call(one) == call(other))
        kept = growing(one)
        growing(one)[1][1].clear()
        part_steps(one)[0][1].clear()
        greatest_part(one)[1].append(HIGH)
        self.assertEqual(growing(one), kept)


if __name__ == "__main__":
    unittest.main()
