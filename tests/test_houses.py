"""Promises 3 and 21 to 25: houses."""

import itertools
import random
import unittest
from fractions import Fraction

from tests.checks import Case, any_values, half_house, large_house, tied_house
from winoften.errors import (
    Duplicate, InvalidChance, InvalidDay, InvalidDays, InvalidHouse, InvalidName, InvalidText, UnknownName,
    UnknownPair,
)
from winoften.houses import House
from winoften.ratios import Ratio

HALF = Ratio(1, 2)
WRONG_NAMES = ["", "abcdefghi", "Ann", "aNn", "a b", "a1", "a-", "-", "a\n", "\u00e9", "\u00aa", None, True, 1,
               Ratio(1), ["a"], ("a",), {}, ("a", 1)]
WRONG_CHANCES = [0, -1, Ratio(0), Ratio(-1, 2), None, True, "1", "1/2", [1], (1,), {}]
NO_LISTS = [None, True, 0, 1, Ratio(1), "", "a", "ab", {}, {"a": "b"}, [], ()]
NO_DOUBLES = [None, True, 1, Ratio(1), "ab", "a", {}, {"a": 1, "b": 2}, [], (), ("a",), ("a", "b", "c")]


def fraction(ratio):
    return Fraction(ratio.top, ratio.bottom)


def one(kinds, name="ann"):
    return [(name, kinds)]


def all_days(house):
    return list(itertools.product(*[[*house.kinds(name), None] for name in house.names()]))


def random_bidders(draw):
    bidders = []
    for name in draw.sample(["ann", "bob", "cy", "day"], draw.randint(1, 4)):
        kinds = draw.sample(["a", "b", "day", "low"], draw.randint(1, 4))
        bottom = draw.randint(len(kinds), 9)
        tops = [1] * len(kinds)
        if draw.random() < 0.5:
            tops[0] += bottom - len(kinds)
        bidders.append((name, [(kind, Ratio(top, bottom)) for kind, top in zip(kinds, tops)]))
    return bidders


def random_tied(draw):
    """A tied house with random days, all of its pairs there on one of them."""
    names = [(name, kinds.split()) for name, kinds in random_names(draw)]
    days = list(itertools.product(*[[*kinds, None] for _, kinds in names]))
    chosen = draw.sample(days, draw.randint(1, min(len(days), 20)))
    for place, (_, kinds) in enumerate(names):
        for kind in kinds:
            if all(day[place] != kind for day in chosen):
                chosen.append(draw.choice([day for day in days if day[place] == kind]))
    weights = [draw.randint(1, 6) for _ in chosen]
    return names, [(day, Ratio(weight, sum(weights))) for day, weight in zip(chosen, weights)]


def random_names(draw):
    names = draw.sample(["ann", "bob", "cy", "day"], draw.randint(1, 4))
    return [(name, " ".join(draw.sample(["a", "b", "day", "low"], draw.randint(1, 3)))) for name in names]


class Independent(Case):
    def test_document_example(self):
        house = House([("ann", [("low", Ratio(1, 2)), ("high", Ratio(1, 4))]), ("bob", [("low", 1)])])
        self.assertEqual(
            [house.names(), house.kinds("ann"), house.pairs(), house.chance(("ann", "high")).text(), len(house),
             house.independent],
            [["ann", "bob"], ["low", "high"], [("ann", "low"), ("ann", "high"), ("bob", "low")], "1/4", 3, True])
        self.assertEqual([(day, chance.text()) for day, chance in house.days()],
                         [(("low", "low"), "1/2"), (("high", "low"), "1/4"), ((None, "low"), "1/4")])

    def test_days_are_products_in_order(self):
        draw = random.Random(21)
        for _ in range(60):
            bidders = random_bidders(draw)
            house = House(bidders)
            options = []
            for _, kinds in bidders:
                rest = 1 - sum(fraction(chance) for _, chance in kinds)
                options.append([(kind, fraction(chance)) for kind, chance in kinds] + [(None, rest)])
            expected = []
            for day in itertools.product(*options):
                chance = Fraction(1)
                for _, part in day:
                    chance *= part
                if chance:
                    expected.append((tuple(kind for kind, _ in day), chance))
            self.assertEqual([(day, fraction(chance)) for day, chance in house.days()], expected)
            self.assertIs(house.independent, True)
            for name, kinds in bidders:
                for kind, chance in kinds:
                    self.assertEqual(house.chance((name, kind)), chance)

    def test_largest_house(self):
        house = large_house()
        self.assertEqual((len(house), len(house.days()), len(house.pairs())), (16, 625, 16))
        self.assertEqual(house.day_chance(("a", None, "d", "b")), Ratio(1, 625))
        longest = House([("abcdefgh", [("stuvwxyz", 1)])])
        self.assertEqual(longest.pairs(), [("abcdefgh", "stuvwxyz")])

    def test_tuples_stand_for_lists(self):
        house = House((("ann", (("low", HALF), ("high", Ratio(1, 4)))), ("bob", (("low", HALF),))))
        self.assertEqual(house, half_house())
        self.assertEqual(House(bidders=one([("a", 1)])), House(one([("a", Ratio(1))])))

    def test_arguments_are_copied(self):
        kinds = [("low", HALF)]
        bidders = [("ann", kinds)]
        house = House(bidders)
        kinds.append(("high", HALF))
        bidders.append(("bob", kinds))
        self.assertEqual((house.pairs(), len(house.days())), ([("ann", "low")], 2))
        self.assertEqual(bidders, [("ann", kinds), ("bob", kinds)])

    def test_wrong_bidders(self):
        for wrong in NO_LISTS + [[("a", [("k", 1)])] * 5, (("a", [("k", 1)]),) * 5]:
            with self.subTest(wrong):
                self.refused(InvalidHouse, wrong, House, wrong)

    def test_wrong_items(self):
        for wrong in NO_DOUBLES + [["ann", [("low", 1)]]]:
            with self.subTest(wrong):
                self.refused(InvalidHouse, wrong, House, [("x", [("k", 1)]), wrong])
                self.refused(InvalidHouse, wrong, House, one([("x", HALF), wrong]))

    def test_wrong_names(self):
        for wrong in WRONG_NAMES:
            with self.subTest(wrong):
                self.refused(InvalidName, wrong, House, [("x", [("k", 1)]), (wrong, None)])
                self.refused(InvalidName, wrong, House, one([("x", HALF), (wrong, None)]))

    def test_duplicates(self):
        name, kind = "".join(["an", "n"]), "".join(["lo", "w"])
        self.refused(Duplicate, name, House, [("ann", [("k", 1)]), ("bob", [("k", 1)]), (name, None)])
        self.refused(Duplicate, kind, House, one([("low", HALF), ("high", HALF), (kind, None)]))

    def test_wrong_kinds(self):
        for wrong in NO_LISTS + [[("a", HALF)] * 5, (1, 2, 3, 4, 5)]:
            with self.subTest(wrong):
                self.refused(InvalidHouse, wrong, House, [("x", [("k", 1)]), ("y", wrong)])

    def test_wrong_chances(self):
        for wrong in WRONG_CHANCES:
            with self.subTest(wrong):
                self.refused(InvalidChance, wrong, House, one([("x", HALF), ("y", wrong)]))

    def test_wrong_sums(self):
        self.refused_with_equal(InvalidChance, Ratio(7, 6), House, one([("x", HALF), ("y", Ratio(2, 3))]))
        self.refused_with_equal(InvalidChance, Ratio(2), House, one([("x", 2)]))
        self.refused_with_equal(InvalidChance, Ratio(5, 2), House, one([("x", 2), ("y", HALF)]))
        self.assertEqual(len(House(one([("x", HALF), ("y", HALF)])).days()), 2)

    def test_order_of_checks(self):
        bad, double = ["bad"], ("ann", None)
        high = ("high", [("k", 2)])
        self.refused(InvalidHouse, bad[0], House, [("ann", bad), bad])
        self.refused(InvalidName, bad, House, [(bad, "no list"), "no tuple"])
        self.refused(Duplicate, "ann", House, [("ann", [("k", 1)]), double, high])
        self.refused_with_equal(InvalidChance, Ratio(2), House, [high, ("high", None)])
        self.refused(InvalidChance, 0, House, one([("x", 2), ("y", 0), ("x", 1), "bad"]))
        self.refused(Duplicate, "x", House, one([("x", 2), ("x", 0), "bad"]))
        self.refused(InvalidName, "X", House, one([("x", 2), ("X", 0), "bad"]))
        self.refused(InvalidHouse, "bad", House, one([("x", 2), "bad", ("x", 0)]))
        self.refused(InvalidHouse, "bad", House, [("ann", [("x", 1)]), ("bob", "bad"), ("ann", 1)])


class Tied(Case):
    NAMED = [("ann", ["a", "b"]), ("bob", ["a"])]
    DAYS = [(("a", "a"), HALF), (("b", None), HALF)]

    def test_document_example(self):
        tied = tied_house()
        self.assertEqual(
            [str(tied), tied.independent, House.read(str(tied)) == tied, tied.there(("a", None))],
            ["ann: a\nbob: a\nday a - 1/2\nday - a 1/2", False, True, [("ann", "a")]])

    def test_days_in_order_and_chances(self):
        draw = random.Random(22)
        for _ in range(80):
            named, days = random_tied(draw)
            house = House.tied(named, days)
            order = {day: place for place, day in enumerate(all_days(house))}
            self.assertEqual(house.days(), sorted(days, key=lambda item: order[item[0]]))
            for pair in house.pairs():
                place = house.names().index(pair[0])
                expected = sum(fraction(chance) for day, chance in days if day[place] == pair[1])
                self.assertEqual(fraction(house.chance(pair)), expected)
            for day in order:
                self.assertEqual(house.day_chance(day), dict(days).get(day, 0))

    def test_independence_is_found(self):
        draw = random.Random(23)
        found = []
        for _ in range(200):
            named, days = random_tied(draw)
            house = House.tied(named, days)
            chances = {day: fraction(chance) for day, chance in days}
            expected = True
            for day in all_days(house):
                product = Fraction(1)
                for place, kind in enumerate(day):
                    product *= sum(chance for other, chance in chances.items() if other[place] == kind)
                expected = expected and product == chances.get(day, 0)
            self.assertIs(house.independent, expected)
            found.append(expected)
        self.assertEqual(set(found), {True, False})

    def test_independent_however_made(self):
        for house in [half_house(), House([("ann", [("a", 1)]), ("bob", [("b", Ratio(1, 3)), ("c", Ratio(1, 5))])])]:
            named = [(name, house.kinds(name)) for name in house.names()]
            again = House.tied(named, house.days()[::-1])
            self.assertIs(again.independent, True)
            self.assertEqual(again, house)
            self.assertEqual(str(again), str(house))

    def test_all_products_but_other_chances(self):
        quarter = Ratio(1, 4)
        days = [(("a", "a"), quarter), (("a", None), quarter), ((None, "a"), quarter), ((None, None), quarter)]
        named = [("ann", ["a"]), ("bob", ["a"])]
        self.assertIs(House.tied(named, days).independent, True)
        days[0] = (("a", "a"), Ratio(3, 8))
        days[1] = (("a", None), Ratio(1, 8))
        self.assertIs(House.tied(named, days).independent, False)
        days[2] = ((None, "a"), Ratio(1, 8))
        days[3] = ((None, None), Ratio(3, 8))
        self.assertIs(House.tied(named, days).independent, False)

    def test_sixty_days(self):
        named = [(name, ["a", "b", "c"]) for name in ("x", "y", "z")]
        days = list(itertools.product(*[["a", "b", "c", None]] * 3))
        self.assertEqual(len(House.tied(named, [(day, Ratio(1, 60)) for day in days[:60]]).days()), 60)
        wrong = [(day, Ratio(1, 61)) for day in days[:61]]
        self.refused(InvalidDays, wrong, House.tied, named, wrong)

    def test_tuples_stand_for_lists(self):
        house = House.tied((("ann", ("a", "b")), ("bob", ("a",))), tuple(self.DAYS))
        self.assertEqual(house, House.tied(bidders=self.NAMED, days=self.DAYS))

    def test_arguments_are_copied(self):
        named, days = [("ann", ["a"])], [(("a",), HALF), ((None,), HALF)]
        house = House.tied(named, days)
        named[0][1].append("b")
        del days[1]
        self.assertEqual((house.kinds("ann"), len(house.days())), (["a"], 2))

    def test_wrong_bidders(self):
        for wrong in NO_LISTS + [[("a", ["k"])] * 5]:
            with self.subTest(wrong):
                self.refused(InvalidHouse, wrong, House.tied, wrong, None)
                self.refused(InvalidHouse, wrong, House.tied, [("x", ["k"]), ("y", wrong)], None)
        for wrong in NO_DOUBLES + [["ann", ["low"]]]:
            with self.subTest(wrong):
                self.refused(InvalidHouse, wrong, House.tied, [("x", ["k"]), wrong], None)
        for wrong in WRONG_NAMES:
            with self.subTest(wrong):
                self.refused(InvalidName, wrong, House.tied, [("x", ["k"]), (wrong, None)], None)
                self.refused(InvalidName, wrong, House.tied, [("x", ["k", wrong, "k"])], None)
        self.refused(Duplicate, "x", House.tied, [("x", ["k"]), ("x", None)], None)
        self.refused(Duplicate, "k", House.tied, [("x", ["k", "j", "k", "K"])], None)
        five = ["a", "b", "c", "d", "e"]
        self.refused(InvalidHouse, five, House.tied, [("x", five)], None)
        pair = ("low", 1)
        self.refused(InvalidName, pair, House.tied, [("x", [pair])], None)

    def test_wrong_days(self):
        for wrong in NO_LISTS:
            with self.subTest(wrong):
                self.refused(InvalidDays, wrong, House.tied, self.NAMED, wrong)
        for wrong in NO_DOUBLES + [[("a", "a"), HALF]]:
            with self.subTest(wrong):
                self.refused(InvalidDays, wrong, House.tied, self.NAMED, [*self.DAYS, wrong])

    def test_wrong_day(self):
        for wrong in [*any_values(), ["a", "a"], ("a", "b"), ("c", "a"), ("a",), ("a", "a", None), ("a", "-"),
                      ("a", ["a"]), ("a", False)]:
            with self.subTest(wrong):
                self.refused(InvalidDay, wrong, House.tied, self.NAMED, [*self.DAYS, (wrong, 0)])

    def test_wrong_chances(self):
        for wrong in WRONG_CHANCES:
            with self.subTest(wrong):
                self.refused(InvalidChance, wrong, House.tied, self.NAMED, [*self.DAYS, ((None, None), wrong)])

    def test_day_twice(self):
        day = tuple(["a", "a"])
        self.refused(Duplicate, day, House.tied, self.NAMED, [*self.DAYS, (day, 0)])

    def test_wrong_sums(self):
        self.refused_with_equal(InvalidChance, Ratio(3, 4), House.tied, self.NAMED,
                                [(("a", "a"), HALF), (("b", None), Ratio(1, 4))])
        self.refused_with_equal(InvalidChance, Ratio(3, 2), House.tied, self.NAMED, [*self.DAYS, ((None, "a"), HALF)])
        self.refused_with_equal(InvalidChance, Ratio(2), House.tied, self.NAMED, [(("a", "a"), 2)])

    def test_pair_that_is_never_there(self):
        self.refused_with_equal(UnknownPair, ("ann", "b"), House.tied, self.NAMED, [(("a", None), 1)])
        self.refused_with_equal(UnknownPair, ("ann", "a"), House.tied, self.NAMED, [((None, None), 1)])
        self.refused_with_equal(UnknownPair, ("bob", "a"), House.tied, self.NAMED,
                                [(("a", None), HALF), (("b", None), HALF)])

    def test_order_of_checks(self):
        make, named = House.tied, self.NAMED
        self.refused(InvalidHouse, 3, make, 3, 4)
        self.refused(Duplicate, "a", make, [("ann", ["a", "a"])], 4)
        self.refused(InvalidDays, 4, make, named, [(("a", "a"), 2), 4, (("a", "a"), 0)])
        self.refused(InvalidDay, 5, make, named, [(("a", "a"), 2), (5, 0), 4])
        self.refused(Duplicate, self.DAYS[0][0], make, named, [*self.DAYS, (self.DAYS[0][0], 0), 4])
        self.refused(InvalidChance, 0, make, named, [(("a", "a"), 2), (("a", None), 0), 4])
        self.refused_with_equal(InvalidChance, Ratio(2), make, named, [(("a", None), 2)])


class Asking(Case):
    def test_names_and_kinds(self):
        house = half_house()
        self.assertEqual(house.kinds(name="bob"), ["low"])
        for wrong in any_values() + ["low", "an", "ann "]:
            with self.subTest(wrong):
                self.refused(UnknownName, wrong, house.kinds, wrong)

    def test_chance(self):
        house = half_house()
        self.assertEqual(house.chance(pair=("ann", "low")), HALF)
        for wrong in any_values() + [["ann", "low"], ("ann", "a"), ("bob", "high"), ("ann", None), ("ann", ["low"])]:
            with self.subTest(wrong):
                self.refused(UnknownPair, wrong, house.chance, wrong)

    def test_day_chance_and_there(self):
        house = half_house()
        self.assertEqual(house.day_chance(day=("high", None)), Ratio(1, 8))
        self.assertEqual(house.there(day=("high", "low")), [("ann", "high"), ("bob", "low")])
        self.assertEqual(house.there((None, "low")), [("bob", "low")])
        self.assertEqual(house.there((None, None)), [])
        for wrong in any_values() + [["low", "low"], ("low",), ("low", "high"), ("low", "low", None), ("low", "-"),
                                     ("low", ["low"]), ("low", False), (None, {})]:
            with self.subTest(wrong):
                self.refused(InvalidDay, wrong, house.day_chance, wrong)
                self.refused(InvalidDay, wrong, house.there, wrong)

    def test_day_with_the_chance_0(self):
        house = tied_house()
        for day in [("a", "a"), (None, None)]:
            self.assertIs(type(house.day_chance(day)), Ratio)
            self.assertEqual(house.day_chance(day), 0)
        self.assertEqual(house.there(("a", "a")), [("ann", "a"), ("bob", "a")])
        sure = House(one([("a", 1)]))
        self.assertEqual((sure.days(), sure.day_chance((None,))), ([(("a",), 1)], 0))

    def test_new_lists_on_each_call(self):
        house = half_house()
        calls = [house.names, lambda: house.kinds("ann"), house.pairs, house.days, lambda: house.there(("low", "low"))]
        for call in calls:
            first = call()
            expected = list(first)
            first.clear()
            self.assertEqual(call(), expected)

    def test_kinds_of_values(self):
        for house in (half_house(), tied_house(), House.read(str(tied_house()))):
            self.assertTrue(all(type(chance) is Ratio for _, chance in house.days()))
            self.assertTrue(all(type(item) is tuple and type(item[0]) is tuple for item in house.days()))
            self.assertTrue(all(type(house.chance(pair)) is Ratio for pair in house.pairs()))
            self.assertTrue(all(type(pair) is tuple for pair in house.pairs()))
            self.assertIs(type(house.independent), bool)
        self.assertIs(type(House(one([("a", 1)])).chance(("ann", "a"))), Ratio)

    def test_independent_cannot_be_set(self):
        with self.assertRaises(AttributeError):
            half_house().independent = False


class Equality(Case):
    def test_unlike_houses(self):
        base = [("ann", [("a", HALF), ("b", Ratio(1, 4))]), ("bob", [("a", HALF)])]
        others = [
            base[::-1], base[:1], [(base[0][0], base[0][1][::-1]), base[1]], [("cid", base[0][1]), base[1]],
            [("ann", [("a", HALF), ("c", Ratio(1, 4))]), base[1]], [("ann", [("a", HALF), ("b", HALF)]), base[1]],
            [("ann", [("a", Ratio(1, 4)), ("b", HALF)]), base[1]],
        ]
        self.assertTrue(House(base) == House(list(base)))
        self.assertFalse(House(base) != House(list(base)))
        for other in others:
            self.assertFalse(House(base) == House(other))
            self.assertTrue(House(base) != House(other))

    def test_same_pairs_but_other_days(self):
        named = [("ann", ["a"]), ("bob", ["a"])]
        never = House.tied(named, [(("a", None), HALF), ((None, "a"), HALF)])
        always = House.tied(named, [(("a", "a"), HALF), ((None, None), HALF)])
        self.assertFalse(never == always)
        self.assertTrue(never == tied_house())

    def test_other_values(self):
        house = half_house()
        for value in [None, True, 3, Ratio(3), str(house), house.pairs(), house.days(), {}]:
            self.assertIs(house == value, False)
            self.assertIs(value == house, False)


class Texts(Case):
    def test_text_of_an_independent_house(self):
        self.assertEqual(str(half_house()), "ann: low 1/2, high 1/4\nbob: low 1/2")
        self.assertEqual(str(House([("day", [("day", 1)]), ("a", [("b", Ratio(1, 3))])])), "day: day 1\na: b 1/3")

    def test_text_of_a_tied_house(self):
        named = [("day", ["x", "day"]), ("b", ["y"])]
        house = House.tied(named, [((None, None), Ratio(1, 3)), (("x", "y"), Ratio(1, 6)), (("day", None), HALF)])
        self.assertEqual(str(house), "day: x, day\nb: y\nday x y 1/6\nday day - 1/2\nday - - 1/3")

    def test_each_text_is_read_back(self):
        draw = random.Random(25)
        houses = [half_house(), tied_house(), large_house(), House(one([("a", 1)]))]
        houses += [House(random_bidders(draw)) for _ in range(40)]
        houses += [House.tied(*random_tied(draw)) for _ in range(60)]
        for house in houses:
            told = House.read(text=str(house))
            self.assertIs(type(told), House)
            self.assertEqual(told, house)
            self.assertEqual((told.pairs(), told.days(), told.independent, str(told)),
                             (house.pairs(), house.days(), house.independent, str(house)))

    def test_changed_texts_are_refused(self):
        for good in ["ann: low 1/2, high 1/4\nbob: low 1", str(tied_house()), "day: a\nb: a\nday a a 1/2\nday - - 1/2"]:
            self.assertEqual(str(House.read(good)), good)
            nearly = [good + " ", " " + good, good + "\n", "\n" + good, good.replace("\n", "\r\n"), good + ",",
                      good.replace("\n", " "), good.replace(": ", ":"), good.replace(": ", ":  "), good.upper(),
                      good.replace(": ", " "), good.replace(" ", "\t"), good.replace("1/2", "2/4"),
                      good.replace("1/2", "+1/2"), good.replace("1/2", "-1/2"), good.replace("1/2", "1/02"),
                      good.replace("1/2", "0.5"), good.replace("1/2", "0"), good.replace("1/2", ""),
                      good.replace("1/2", " 1/2"), good.replace("1/2", "1/3" + "0" * 100), good.replace("1/2", "5/4")]
            lines = good.split("\n")
            for place in range(len(lines)):
                nearly.append("\n".join(lines[:place] + [lines[place]] * 2 + lines[place + 1:]))
                if lines[place].startswith("day ") or len(lines) > 2:
                    nearly.append("\n".join(lines[:place] + lines[place + 1:]))
            if "day " in good:
                nearly.append("\n".join(lines[:2] + lines[:1:-1]))
                nearly.append("\n".join(lines[2:] + lines[:2]))
                nearly.append("\n".join([lines[0], *lines[2:], lines[1]]))
            for text in nearly:
                with self.subTest(text):
                    self.refused(InvalidText, text, House.read, text)

    def test_what_is_no_text(self):
        for text in ["", "\n", "ann", "ann:", "ann: ", "ann: a", "ann: a,b 1", "ann: a 1/2,b 1/2", "ann: a 1/2 , b 1/2",
                     "ann: a 1/2, b 1/2, ", "ann: a  1", "ann: a 1 ", ": a 1", "ann: 1", "ann: - 1", "ann: a 2",
                     "ann: a 1, a 1", "ann: a 1/2, a 1/4", "ann: a 1\nann: a 1", "ann: a 2/3, b 2/3", "ann: a 1 1",
                     "ann: a 0", "ann: a -1", "Ann: a 1", "ann: A 1", "abcdefghi: a 1", "ann: abcdefghi 1",
                     "ann: a 1/5, b 1/5, c 1/5, d 1/5, e 1/5", "a: a 1\nb: a 1\nc: a 1\nd: a 1\ne: a 1",
                     "ann: a 1/1", "ann: a 01", "day a 1", "day", "day ", "ann: a\nday", "ann: a\nday ", "ann: a\nday a",
                     "ann: a\nday  1", "ann: a\nday 1", "ann: a\nday a - 1", "ann: a\nday b 1", "a: a 1, b: a 1"]:
            with self.subTest(text):
                self.refused(InvalidText, text, House.read, text)

    def test_other_form_than_that_of_the_house(self):
        for text in ["ann: a\nday a 1", "ann: a\nday a 1/2\nday - 1/2", "ann: a 1/2\nday a 1/2\nday - 1/2",
                     "ann: a 1/2\nbob: a 1/2\nday a - 1/2\nday - a 1/2", "ann: a\nbob: a 1/2\nday a - 1/2\nday - a 1/2",
                     "ann: a\nbob: a\nday a a 1/4\nday a - 1/4\nday - a 1/4\nday - - 1/4",
                     "ann: a\nbob: a\nday - a 1/2\nday a - 1/2", "ann: a\nbob: a\nday a - 1/2\nday - a 1/4",
                     "ann: a\nbob: a\nday a - 1/2\nday a - 1/2", "ann: a, b\nbob: a\nday a - 1/2\nday - a 1/2",
                     "ann: a\nbob: a\nday a - 1/2\nday - a 1/2\nday - - 0", "ann: a\nbob: a\nday a 1/2\nday - a 1/2",
                     "ann: a\nbob: a\nDay a - 1/2\nday - a 1/2", "ann: a\nbob: a\nday a None 1/2\nday - a 1/2",
                     "ann: a\nbob: a\nday a  1/2\nday  a 1/2", "ann: a\nbob: a\nday a - 1/2\n\nday - a 1/2"]:
            with self.subTest(text):
                self.refused(InvalidText, text, House.read, text)

    def test_too_many_days(self):
        named = [(name, ["a", "b", "c"]) for name in ("x", "y", "z")]
        days = list(itertools.product(*[["a", "b", "c", None]] * 3))[:61]
        lines = [name + ": " + ", ".join(kinds) for name, kinds in named]
        lines += ["day " + " ".join(kind or "-" for kind in day) + " 1/61" for day in days]
        text = "\n".join(lines)
        self.refused(InvalidText, text, House.read, text)

    def test_number_that_cannot_be_read(self):
        house = House(one([("a", Ratio(1, 10 ** 100 + 1))]))
        text = str(house)
        self.assertEqual(text, "ann: a 1/1" + "0" * 99 + "1")
        self.refused(InvalidText, text, House.read, text)
        readable = House(one([("a", Ratio(1, 10 ** 97))]))
        self.assertEqual(House.read(str(readable)), readable)

    def test_other_values(self):
        for value in any_values() + [[str(half_house())], half_house()]:
            with self.subTest(value):
                self.refused(InvalidText, value, House.read, value)


if __name__ == "__main__":
    unittest.main()
