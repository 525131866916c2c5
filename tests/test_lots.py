"""Promises 5 and 31 to 35: lots."""

import inspect
import itertools
import random
import unittest
from fractions import Fraction

from tests.checks import Case, any_values, half_house, large_house, tied_house
from tests.test_houses import fraction, random_bidders, random_tied
from winoften.errors import Duplicate, InvalidCount, InvalidHouse, InvalidLot, TooMany, UnknownPair
from winoften.houses import House
from winoften.lots import alike, all_lots, coming, gain, lot_of, several
from winoften.ratios import Ratio

HALF = Ratio(1, 2)
LOW, HIGH, BOB = ("ann", "low"), ("ann", "high"), ("bob", "low")
NO_HOUSES = [None, True, 0, Ratio(1), "ann: low 1", [], (), {}, [half_house()], [("ann", [("low", 1)])]]
NO_LOTS = [None, True, 0, Ratio(1), "", "ann", {}, {LOW: 1}, half_house()]
NO_COUNTS = [None, True, False, 0, 5, -1, Ratio(1), Ratio(2), "1", [1], (1,), {}]


def houses():
    draw = random.Random(31)
    made = [half_house(), tied_house()]
    made += [House(random_bidders(draw)) for _ in range(12)]
    made += [House.tied(*random_tied(draw)) for _ in range(20)]
    return [house for house in made if len(house) <= 8]


def some_lots(house, draw):
    pairs = house.pairs()
    return [[], pairs] + [draw.sample(pairs, draw.randint(1, len(pairs))) for _ in range(6)]


def mean(house, lot, most):
    """The mean by its definition."""
    found = Fraction(0)
    for day, chance in house.days():
        found += fraction(chance) * min(most, len([pair for pair in zip(house.names(), day) if pair in lot]))
    return found


class Lots(Case):
    def calls(self):
        """All functions that take a house and a lot, with the arguments behind these."""
        return [(lot_of, ()), (coming, ()), (gain, (LOW,)), (several, (2,))]

    def test_document_example(self):
        house = half_house()
        self.assertEqual(
            [coming(house, [BOB, HIGH]).text(), gain(house, [LOW], BOB).text(),
             several(house, house.pairs(), 2).text()],
            ["5/8", "1/4", "5/4"])
        self.assertEqual([lot_of(house, [BOB, LOW]), len(list(all_lots(house))), alike(house)],
                         [[LOW, BOB], 8, [["ann"], ["bob"]]])

    def test_wrong_house(self):
        for call, rest in self.calls():
            for wrong in NO_HOUSES:
                with self.subTest(call=call, wrong=wrong):
                    self.refused(InvalidHouse, wrong, call, wrong, "no lot", *rest)

    def test_wrong_lot(self):
        for call, rest in self.calls():
            for wrong in NO_LOTS:
                with self.subTest(call=call, wrong=wrong):
                    self.refused(InvalidLot, wrong, call, half_house(), wrong, *rest)

    def test_wrong_item(self):
        others = [item for item in any_values() if item != LOW] + [["ann", "low"], ("ann", "Low"), ("bob", "high")]
        for call, rest in self.calls():
            for wrong in others:
                with self.subTest(call=call, wrong=wrong):
                    self.refused(UnknownPair, wrong, call, half_house(), [LOW, wrong, LOW], *rest)
                    self.refused(UnknownPair, wrong, call, half_house(), (wrong,), *rest)

    def test_item_twice(self):
        for call, rest in self.calls():
            again = tuple(["ann", "low"])
            self.refused(Duplicate, again, call, half_house(), [LOW, BOB, again, "no pair"], *rest)

    def test_lot_in_order(self):
        house = half_house()
        for size in range(4):
            for lot in itertools.permutations(house.pairs(), size):
                told = lot_of(house=house, lot=list(lot))
                self.assertEqual(told, [pair for pair in [LOW, HIGH, BOB] if pair in lot])
                self.assertEqual(told, lot_of(house, lot))
        self.assertIs(type(lot_of(house, (BOB, LOW))), list)

    def test_new_list(self):
        house, lot = half_house(), [LOW, BOB]
        told = lot_of(house, lot)
        self.assertIsNot(told, lot)
        told.clear()
        self.assertEqual((lot, lot_of(house, lot)), ([LOW, BOB], [LOW, BOB]))


class Comings(Case):
    def test_coming_and_several(self):
        draw = random.Random(32)
        for house in houses():
            for lot in some_lots(house, draw):
                before = list(lot)
                told = coming(house, lot)
                self.assertIs(type(told), Ratio)
                self.assertEqual(fraction(told), mean(house, lot, 1))
                for most in (1, 2, 3, 4):
                    told = several(house, tuple(lot), most)
                    self.assertIs(type(told), Ratio)
                    self.assertEqual(fraction(told), mean(house, lot, most))
                self.assertEqual(lot, before)

    def test_empty_lot(self):
        for house in houses():
            self.assertEqual(coming(house, []), 0)
            self.assertEqual(several(house, (), 4), 0)

    def test_gain(self):
        draw = random.Random(33)
        for house in houses():
            for lot in some_lots(house, draw):
                for pair in house.pairs():
                    told = gain(house, lot, pair)
                    self.assertIs(type(told), Ratio)
                    with_pair = lot if pair in lot else [*lot, pair]
                    self.assertEqual(fraction(told), mean(house, with_pair, 1) - mean(house, lot, 1))

    def test_gains_fall_as_lots_grow(self):
        draw = random.Random(34)
        for house in houses():
            for lot in some_lots(house, draw):
                for pair in house.pairs():
                    part = lot[:len(lot) // 2]
                    if pair not in lot:
                        self.assertFalse(gain(house, part, pair).below(gain(house, lot, pair)))

    def test_gain_of_a_pair_in_the_lot(self):
        self.assertEqual(gain(house=half_house(), lot=[LOW, BOB], pair=BOB), 0)
        self.assertEqual(gain(half_house(), [], HIGH), Ratio(1, 4))

    def test_wrong_pair(self):
        for wrong in any_values() + [["ann", "low"], ("bob", "high")]:
            if wrong != LOW:
                with self.subTest(wrong):
                    self.refused(UnknownPair, wrong, gain, half_house(), [LOW], wrong)
        wrong = ("bob", "high")
        self.refused(InvalidHouse, 1, gain, 1, [], wrong)
        self.refused(InvalidLot, 1, gain, half_house(), 1, wrong)
        self.refused(Duplicate, LOW, gain, half_house(), [LOW, LOW], wrong)

    def test_wrong_count(self):
        for wrong in NO_COUNTS:
            with self.subTest(wrong):
                self.refused(InvalidCount, wrong, several, half_house(), [LOW], wrong)
        self.refused(InvalidHouse, 1, several, 1, [], 0)
        self.refused(InvalidLot, 1, several, half_house(), 1, 0)
        self.refused(Duplicate, LOW, several, half_house(), [LOW, LOW], 0)

    def test_arguments_by_name(self):
        self.assertEqual(coming(house=half_house(), lot=[LOW]), HALF)
        self.assertEqual(several(house=half_house(), lot=[LOW, BOB], most=1), Ratio(3, 4))


class AllLots(Case):
    def test_all_in_order(self):
        for house in houses():
            pairs = house.pairs()
            expected = [list(lot) for size in range(len(pairs) + 1) for lot in itertools.combinations(pairs, size)]
            told = list(all_lots(house=house))
            self.assertEqual(told, expected)
            self.assertTrue(all(type(lot) is list for lot in told))

    def test_one_by_one(self):
        told = all_lots(half_house())
        self.assertTrue(inspect.isgenerator(told))
        first = next(told)
        self.assertEqual(first, [])
        first.append("changed")
        second = next(told)
        self.assertEqual(second, [LOW])
        second.clear()
        self.assertEqual(list(told), [[HIGH], [BOB], [LOW, HIGH], [LOW, BOB], [HIGH, BOB], [LOW, HIGH, BOB]])

    def test_most_pairs(self):
        kinds = [(kind, Ratio(1, 4)) for kind in ("a", "b", "c", "d")]
        ten = House([("x", kinds), ("y", kinds), ("z", kinds[:2])])
        self.assertEqual(len(list(all_lots(ten))), 1024)
        eleven = House([("x", kinds), ("y", kinds), ("z", kinds[:3])])
        self.refused(TooMany, 11, self.first_of, eleven)
        self.refused(TooMany, 16, self.first_of, large_house())

    def test_wrong_house(self):
        for wrong in NO_HOUSES:
            with self.subTest(wrong):
                self.refused(InvalidHouse, wrong, self.first_of, wrong)

    def first_of(self, house):
        return next(all_lots(house))


class Alike(Case):
    def test_independent_houses(self):
        same = [("a", HALF), ("b", Ratio(1, 4))]
        house = House([("w", same), ("x", [("a", 1)]), ("y", list(same)), ("z", [("a", Ratio(3, 3))])])
        self.assertEqual(alike(house=house), [["w", "y"], ["x", "z"]])
        self.assertEqual(alike(large_house()), [["w", "x", "y", "z"]])
        for other in [same[::-1], same[:1], [("a", HALF), ("c", Ratio(1, 4))], [("a", Ratio(1, 4)), ("b", HALF)]]:
            self.assertEqual(alike(House([("w", same), ("x", other)])), [["w"], ["x"]])

    def test_same_chances_but_unlike_days(self):
        named = [("x", ["a"]), ("y", ["a"]), ("z", ["a"])]
        third = Ratio(1, 3)
        house = House.tied(named, [(("a", "a", None), third), (("a", None, "a"), third), ((None, None, None), third)])
        self.assertEqual(alike(house), [["x"], ["y", "z"]])
        chain = House.tied(named, [(("a", None, None), third), ((None, "a", None), third), ((None, None, "a"), third)])
        self.assertEqual(alike(chain), [["x", "y", "z"]])
        self.assertEqual(alike(tied_house()), [["ann", "bob"]])
        quarter = Ratio(1, 4)
        turned = House.tied([("x", ["a", "b"]), ("y", ["a", "b"])],
                            [(("a", "b"), HALF), (("b", "a"), quarter), (("a", "a"), quarter)])
        self.assertEqual(alike(turned), [["x"], ["y"]])

    def test_by_its_definition(self):
        draw = random.Random(35)
        for house in houses() + [self.mixed_house(draw) for _ in range(30)]:
            names = house.names()
            expected = []
            for name in names:
                for group in expected:
                    if self.are_alike(house, names.index(group[0]), names.index(name)):
                        group.append(name)
                        break
                else:
                    expected.append([name])
            self.assertEqual(alike(house), expected)

    def mixed_house(self, draw):
        """A tied house some of whose bidders are alike, since their days are all told with both turned."""
        names = ["x", "y", "z"]
        one, other = draw.sample(range(3), 2)
        weights = {}
        for day in itertools.product(["a", None], repeat=3):
            turned = list(day)
            turned[one], turned[other] = day[other], day[one]
            weights[day] = weights.get(tuple(turned), draw.randint(1, 3))
        total = sum(weights.values())
        return House.tied([(name, ["a"]) for name in names],
                          [(day, Ratio(weight, total)) for day, weight in weights.items()])

    def are_alike(self, house, one, other):
        names = house.names()
        if house.kinds(names[one]) != house.kinds(names[other]):
            return False
        for day in itertools.product(*[[*house.kinds(name), None] for name in names]):
            turned = list(day)
            turned[one], turned[other] = day[other], day[one]
            if house.day_chance(day) != house.day_chance(tuple(turned)):
                return False
        return True

    def test_new_lists(self):
        house = tied_house()
        told = alike(house)
        told[0].clear()
        self.assertEqual(alike(house), [["ann", "bob"]])

    def test_wrong_house(self):
        for wrong in NO_HOUSES:
            with self.subTest(wrong):
                self.refused(InvalidHouse, wrong, alike, wrong)


if __name__ == "__main__":
    unittest.main()
