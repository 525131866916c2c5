"""Promises 4, 6 and 51 to 55: rules, orders and mixtures of rules."""

import itertools
import random
import unittest
from fractions import Fraction

from tests.checks import Case, any_values, half_house, large_house, tied_house
from tests.samples import (
    document_house, every_order, fraction, order_numbers, random_order, ratio, small_houses, sure_house, there,
)
from tests.test_lots import NO_HOUSES
from tests.test_wishes import NO_DICTS, NO_SHARES, no_names, no_pairs
from winoften.errors import (
    InvalidDay, InvalidHouse, InvalidNumber, InvalidOrder, InvalidRule, InvalidText, UnknownName,
)
from winoften.houses import House
from winoften.ratios import Ratio
from winoften.rules import Rule, as_order, drawn, is_order, mixture, order_rule, order_wish, winner
from winoften.wishes import Wish

HALF = Ratio(1, 2)
LOW, HIGH, BOB = ("ann", "low"), ("ann", "high"), ("bob", "low")
BOTH, ALONE = ("low", "low"), ("low", None)
WRONG_KEYS = [None, 0, "", "low low", (), ("low",), ("low", "low", "low"), ("low", "high"), ("zed", None), (0, 0),
              ("ann", "low"), (None, 0), (BOTH,)]


def no_days():
    """Values that are no days of the house of the document."""
    return [value for value in any_values() if value != BOTH] + [["low", "low"], ("low", "zed"), ("low", "")]


def no_orders():
    """Values that are no orders of the house of the document."""
    fine = [value for value in any_values() if value not in ([], ())]
    return [*fine, LOW, [LOW, LOW], (BOB, LOW, BOB), [LOW, ["ann", "high"]], [LOW, ("ann", "zed")], {LOW: 1},
            [LOW, None], [[LOW]], [LOW, HIGH, BOB, LOW]]


def random_table(draw, house):
    """A table with random shares on some days, some of them 0."""
    table = {}
    for day, _ in house.days():
        if draw.random() < 0.8:
            bottom = draw.randint(1, 6)
            rest = bottom
            table[day] = {}
            for name, _ in draw.sample(there(house, day), len(there(house, day))):
                top = draw.choice([0, rest, draw.randint(0, rest)])
                rest -= top
                table[day][name] = Ratio(top, bottom)
    return table


def rules_of(house):
    """All rules that give each day the whole thing to somebody or nobody."""
    days = [day for day, _ in house.days()]
    for names in itertools.product(*[[None] + [name for name, _ in there(house, day)] for day in days]):
        yield Rule(house, {day: {name: 1} for day, name in zip(days, names) if name is not None})


class Making(Case):
    def test_document_example(self):
        house = document_house()
        rule = Rule(house, {("low", "low"): {"bob": Ratio(1, 3)}, ("high", None): {"ann": 1}})
        self.assertEqual(
            [str(rule).split("\n"), str(rule.wish()), rule.given().text(), rule.share(BOTH, "ann").text()],
            [["low low: bob 1/3", "low -: nobody", "high low: nobody", "high -: ann 1"],
             "ann low 0; ann high 1/2; bob low 1/6", "1/3", "0"])

    def test_shares_wish_and_given(self):
        draw = random.Random(51)
        for house in small_houses(52, 40):
            table = random_table(draw, house)
            rule = Rule(house=house, table=table)
            self.assertIs(rule.house, house)
            won = {pair: Fraction(0) for pair in house.pairs()}
            for day, chance in house.days():
                expected = {name: table.get(day, {}).get(name, 0) for name, _ in there(house, day)}
                self.assertEqual(list(rule.shares(day=day).items()), list(expected.items()))
                for name, kind in zip(house.names(), day):
                    share = rule.share(day=day, name=name)
                    self.assertIs(type(share), Ratio)
                    self.assertEqual(share, expected.get(name, 0))
                    if kind is not None:
                        self.assertIs(type(rule.shares(day)[name]), Ratio)
                        won[(name, kind)] += fraction(chance) * fraction(share)
            wish = rule.wish()
            self.assertIs(type(wish), Wish)
            self.assertEqual({pair: fraction(number) for pair, number in wish.numbers().items()},
                             {pair: won[pair] / fraction(house.chance(pair)) for pair in won})
            self.assertIs(type(rule.given()), Ratio)
            self.assertEqual(fraction(rule.given()), sum(won.values()))

    def test_empty_tables(self):
        for table in [{}, {BOTH: {}}, {BOTH: {"ann": 0}}]:
            rule = Rule(document_house(), table)
            self.assertEqual((rule.given(), rule.wish().total()), (0, 0))
            self.assertEqual(rule, Rule(document_house(), {}))

    def test_wrong_house_and_table(self):
        for wrong in NO_HOUSES:
            self.refused(InvalidHouse, wrong, Rule, wrong, None)
            self.refused(InvalidHouse, wrong, Rule.read, wrong, None)
        for wrong in NO_DICTS:
            self.refused(InvalidRule, wrong, Rule, document_house(), wrong)
            self.refused(InvalidRule, wrong, Rule, document_house(), {BOTH: {}, ALONE: wrong, "zed": {}})

    def test_wrong_days(self):
        for wrong in WRONG_KEYS:
            with self.subTest(wrong):
                self.refused(InvalidDay, wrong, Rule, document_house(), {BOTH: {}, wrong: None, ALONE: None})
        never = ("a", "a")
        self.refused(InvalidDay, never, Rule, tied_house(), {never: {}})

    def test_wrong_names_and_shares(self):
        house = document_house()
        for wrong in [None, 0, "", "zed", "Ann", "low", ("ann",), LOW, (), ("ann", "bob")]:
            with self.subTest(wrong):
                self.refused(UnknownName, wrong, Rule, house, {BOTH: {"ann": 0, wrong: -1, "bob": -1}, "zed": None})
        self.refused(UnknownName, "bob", Rule, house, {ALONE: {"bob": 0}})
        for wrong in NO_SHARES:
            with self.subTest(wrong):
                self.refused(InvalidNumber, wrong, Rule, house, {BOTH: {"ann": 1, "bob": wrong, "zed": 0}})
        self.refused(InvalidNumber, 2, Rule, house, {BOTH: {"ann": 1, "bob": 2}})

    def test_too_much_on_a_day(self):
        house = document_house()
        self.refused_with_equal(InvalidNumber, Ratio(5, 4), Rule, house,
                                {ALONE: {"ann": 1}, BOTH: {"ann": HALF, "bob": Ratio(3, 4)}, "zed": None})
        self.refused_with_equal(InvalidNumber, Ratio(2), Rule, house, {BOTH: {"ann": 1, "bob": 1}})
        self.assertEqual(Rule(house, {BOTH: {"ann": HALF, "bob": HALF}}).given(), Ratio(1, 4))

    def test_wrong_days_and_names_of_shares(self):
        rule = Rule(document_house(), {BOTH: {"ann": 1}})
        for wrong in no_days():
            with self.subTest(wrong):
                self.refused(InvalidDay, wrong, rule.share, wrong, "zed")
                self.refused(InvalidDay, wrong, rule.shares, wrong)
        for wrong in no_names():
            if wrong != "bob":
                with self.subTest(wrong):
                    self.refused(UnknownName, wrong, rule.share, BOTH, wrong)
        never = ("a", "a")
        self.refused(InvalidDay, never, Rule(tied_house(), {}).share, never, "ann")
        self.refused(InvalidDay, never, Rule(tied_house(), {}).shares, never)

    def test_nothing_is_shared(self):
        table = {BOTH: {"ann": HALF}}
        rule = Rule(document_house(), table)
        table[BOTH]["ann"] = 1
        table[ALONE] = {"ann": 1}
        shares = rule.shares(BOTH)
        self.assertIsNot(shares, rule.shares(BOTH))
        shares["ann"] = Ratio(1)
        self.assertEqual((rule.share(BOTH, "ann"), rule.given()), (HALF, Ratio(1, 8)))

    def test_arguments_stay(self):
        table = {ALONE: {"ann": 1}, BOTH: {"bob": HALF, "ann": 0}}
        Rule(document_house(), table)
        self.assertEqual(table, {ALONE: {"ann": 1}, BOTH: {"bob": HALF, "ann": 0}})
        self.assertIs(type(table[ALONE]["ann"]), int)


class Equality(Case):
    def test_equal(self):
        house = document_house()
        one = Rule(house, {BOTH: {"ann": HALF, "bob": 0}, ALONE: {}})
        other = Rule(document_house(), {BOTH: {"ann": Ratio(2, 4)}})
        self.assertTrue(one == other)
        self.assertFalse(one != other)
        tied = House.tied([("ann", ["low", "high"]), ("bob", ["low"])], house.days()[::-1])
        self.assertTrue(one == Rule(tied, {BOTH: {"ann": HALF}}))

    def test_unlike(self):
        one = Rule(document_house(), {BOTH: {"ann": HALF}})
        for other in [Rule(document_house(), {BOTH: {"bob": HALF}}), Rule(document_house(), {ALONE: {"ann": HALF}}),
                      Rule(document_house(), {BOTH: {"ann": 1}}), Rule(half_house(), {BOTH: {"ann": HALF}}),
                      Rule(self.house_with_other_chances(), {BOTH: {"ann": HALF}}),
                      Rule(document_house(), {BOTH: {"ann": HALF}, ALONE: {"ann": Ratio(1, 10 ** 50)}})]:
            self.assertFalse(one == other)
            self.assertTrue(one != other)
        for other in [*any_values(), str(one), one.wish(), {BOTH: {"ann": HALF}}]:
            self.assertFalse(one == other)


    def house_with_other_chances(self):
        """It has just the days of the house of the document."""
        return House([("ann", [("low", Ratio(1, 3)), ("high", Ratio(2, 3))]), ("bob", [("low", HALF)])])


class Texts(Case):
    def test_read_back(self):
        draw = random.Random(53)
        for house in [*small_houses(54, 40), large_house()]:
            rule = Rule(house, random_table(draw, house))
            text = str(rule)
            lines = []
            for day, _ in house.days():
                shares = [f"{name} {share.text()}" for name, share in rule.shares(day).items() if share != 0]
                lines.append(" ".join(kind or "-" for kind in day) + ": " + (", ".join(shares) or "nobody"))
            self.assertEqual(text, "\n".join(lines))
            told = Rule.read(house=house, text=text)
            self.assertTrue(told == rule)
            self.assertIs(told.house, house)

    def test_a_bidder_called_nobody(self):
        house = House([("nobody", [("nobody", HALF)]), ("day", [("day", HALF)])])
        for shares in [{}, {"nobody": 1}, {"day": HALF, "nobody": HALF}]:
            rule = Rule(house, {("nobody", "day"): shares})
            self.assertTrue(Rule.read(house, str(rule)) == rule)

    def test_nearly_texts(self):
        house = document_house()
        text = "low low: ann 1/3, bob 1/2\nlow -: nobody\nhigh low: bob 1\nhigh -: ann 1"
        self.assertEqual(str(Rule.read(house, text)), text)
        lines = text.split("\n")
        wrongs = ["\n".join(order) for order in itertools.permutations(lines) if list(order) != lines]
        wrongs += ["\n".join(lines[:at] + lines[at + 1:]) for at in range(4)]
        wrongs += ["\n".join(lines[:at] + [lines[at]] + lines[at:]) for at in range(4)]
        wrongs += [
            "", " ", text + "\n", "\n" + text, text + " ", " " + text, text.replace("\n", "\n\n"),
            text.replace("\n", " "), text.replace("\n", "; "), text.replace(": ", ":"), text.replace(":", " :"),
            text.replace(": ", ":  "), text.replace(", ", ","), text.replace(", ", "; "), text.replace("nobody", ""),
            text.replace("nobody", "ann 0"), text.replace("nobody", "-"), text.replace("nobody", "nobody 1"),
            text.replace("ann 1/3, bob 1/2", "bob 1/2, ann 1/3"), text.replace("1/3", "2/3"),
            text.replace("1/3", "2/6"), text.replace("1/3", "-1/3"), text.replace("1/3", "0"),
            text.replace("1/3", "1/3, ann 1/3"), text.replace("bob 1\n", "bob 2\n"), text.replace("-: ann", "-: bob"),
            text.replace("low -", "low"), text.replace("low -", "low None"), text.replace("high", "zed"),
            text.replace("bob 1\n", "bob 1, nobody\n"), text.replace("bob 1\n", "bob\n"),
            text.replace("1/3", "1/" + "9" * 99), text + "\n- low: nobody",
        ]
        for wrong in wrongs:
            with self.subTest(wrong):
                self.refused(InvalidText, wrong, Rule.read, house, wrong)

    def test_no_texts(self):
        house = document_house()
        for wrong in [*any_values(), Rule(house, {}), [str(Rule(house, {}))], str(Rule(tied_house(), {}))]:
            with self.subTest(wrong):
                self.refused(InvalidText, wrong, Rule.read, house, wrong)


class Orders(Case):
    def test_document_example(self):
        house = document_house()
        order = [HIGH, BOB]
        rule = Rule(house, {BOTH: {"bob": Ratio(1, 3)}, ("high", None): {"ann": 1}})
        self.assertEqual(
            [winner(house, order, ("high", "low")), winner(house, order, ALONE), str(order_wish(house, order)),
             as_order(order_rule(house, order)), as_order(rule)],
            ["ann", None, "ann low 0; ann high 1; bob low 1/2", [HIGH, BOB], None])

    def test_is_order(self):
        house = document_house()
        for order in every_order(house):
            self.assertIs(is_order(house=house, order=order), True)
            self.assertIs(is_order(house, tuple(order)), True)
        for wrong in no_orders():
            with self.subTest(wrong):
                self.assertIs(is_order(house, wrong), False)

    def test_wrong_houses_orders_and_days(self):
        house = document_house()
        for wrong in NO_HOUSES:
            self.refused(InvalidHouse, wrong, is_order, wrong, None)
            self.refused(InvalidHouse, wrong, winner, wrong, None, None)
            self.refused(InvalidHouse, wrong, order_rule, wrong, None)
            self.refused(InvalidHouse, wrong, order_wish, wrong, None)
        for wrong in no_orders():
            with self.subTest(wrong):
                self.refused(InvalidOrder, wrong, winner, house, wrong, None)
                self.refused(InvalidOrder, wrong, order_rule, house, wrong)
                self.refused(InvalidOrder, wrong, order_wish, house, wrong)
        for wrong in no_days():
            with self.subTest(wrong):
                self.refused(InvalidDay, wrong, winner, house, [LOW], wrong)

    def test_by_definition(self):
        draw = random.Random(55)
        for house in small_houses(56, 40):
            for _ in range(4):
                order = random_order(draw, house)
                rule = order_rule(house=house, order=order)
                for day in itertools.product(*[[*house.kinds(name), None] for name in house.names()]):
                    first = [name for name, kind in order if (name, kind) in there(house, day)]
                    expected = first[0] if first else None
                    self.assertEqual(winner(house=house, order=tuple(order), day=day), expected)
                    if house.day_chance(day) != 0:
                        self.assertEqual(rule.shares(day), {name: int(name == expected)
                                                            for name, _ in there(house, day)})
                wish = order_wish(house=house, order=order)
                self.assertEqual({pair: fraction(number) for pair, number in wish.numbers().items()},
                                 order_numbers(house, order))
                self.assertEqual(rule.wish(), wish)
                self.assertEqual(order_wish(house, tuple(order)), wish)

    def test_as_order_of_orders(self):
        draw = random.Random(57)
        for house in [*small_houses(58, 60), large_house()]:
            order = random_order(draw, house)
            rule = order_rule(house, order)
            told = as_order(rule=rule)
            self.assertIs(type(told), list)
            self.assertTrue(is_order(house, told))
            self.assertTrue(order_rule(house, told) == rule)
            told.append("changed")
            self.assertTrue(order_rule(house, as_order(rule)) == rule)

    def test_as_order_of_all_plain_rules(self):
        third = Ratio(1, 3)
        ring = House.tied([("x", ["a"]), ("y", ["a"]), ("z", ["a"])],
                          [(("a", "a", None), third), ((None, "a", "a"), third), (("a", None, "a"), third)])
        for house in [document_house(), sure_house(), ring, tied_house()]:
            rules = [order_rule(house, order) for order in every_order(house)]
            for rule in rules_of(house):
                told = as_order(rule)
                if rule in rules:
                    self.assertTrue(order_rule(house, told) == rule)
                else:
                    self.assertIsNone(told)

    def test_rules_with_broken_shares_have_no_order(self):
        house = document_house()
        for shares in [{"ann": HALF}, {"ann": HALF, "bob": HALF}, {"bob": Ratio(10 ** 50 - 1, 10 ** 50)}]:
            self.assertIsNone(as_order(Rule(house, {BOTH: shares})))

    def test_no_rules(self):
        for wrong in [*any_values(), Wish(document_house(), {}), [Rule(document_house(), {})]]:
            with self.subTest(wrong):
                self.refused(InvalidRule, wrong, as_order, wrong)


class Mixtures(Case):
    def test_by_definition(self):
        draw = random.Random(59)
        for house in small_houses(60, 30):
            weights = [draw.randint(1, 5) for _ in range(draw.choice([1, 2, 5]))]
            parts = [(Ratio(weight, sum(weights)), Rule(house, random_table(draw, house))) for weight in weights]
            told = mixture(parts=parts)
            self.assertTrue(told == mixture(tuple(parts)))
            for day, _ in house.days():
                for name, _ in there(house, day):
                    expected = sum([fraction(share) * fraction(rule.share(day, name)) for share, rule in parts])
                    self.assertEqual(fraction(told.share(day, name)), expected)

    def test_forty_rules_for_the_largest_house(self):
        draw, house = random.Random(62), large_house()
        rules = [order_rule(house, random_order(draw, house)) for _ in range(37)]
        rules += [Rule(house, random_table(draw, house)) for _ in range(2)] + [Rule(house, {})]
        parts = [(Ratio(place + 1, 820), rule) for place, rule in enumerate(rules)]
        told = mixture(parts)
        for day, _ in house.days()[::31]:
            for name, _ in there(house, day):
                expected = sum([fraction(share) * fraction(rule.share(day, name)) for share, rule in parts])
                self.assertEqual(fraction(told.share(day, name)), expected)
        self.assertEqual(fraction(told.given()), sum([fraction(share) * fraction(rule.given()) for share, rule in parts]))
        self.assertTrue(Rule.read(house, str(told)) == told)

    def test_number_of_parts(self):
        rule = order_rule(document_house(), [LOW])
        self.assertTrue(mixture([(1, rule)]) == rule)
        self.assertTrue(mixture([(Ratio(1, 40), rule)] * 40) == rule)
        for parts in [[], (), [(Ratio(1, 41), rule)] * 41]:
            self.refused(InvalidRule, parts, mixture, parts)
            self.refused(InvalidRule, parts, drawn, parts, None)

    def calls(self, parts):
        """Both functions with parts, and no number behind these."""
        return [(mixture, (parts,)), (drawn, (parts, None))]

    def test_wrong_parts(self):
        rule = Rule(document_house(), {})
        for wrong in [None, True, 0, Ratio(1), "", "ab", {}, {1: rule}, rule]:
            for call, args in self.calls(wrong):
                self.refused(InvalidRule, wrong, call, *args)
        for wrong in [None, True, 0, "ab", {}, rule, [HALF, rule], (), (HALF,), (HALF, rule, rule)]:
            for call, args in self.calls([(HALF, rule), wrong, (0, None)]):
                self.refused(InvalidRule, wrong, call, *args)
        for wrong in [*NO_SHARES, 0, Ratio(0)]:
            for call, args in self.calls([(wrong, None), None]):
                self.refused(InvalidNumber, wrong, call, *args)
        for wrong in [*any_values(), Rule(tied_house(), {}), Wish(document_house(), {})]:
            for call, args in self.calls([(HALF, rule), (HALF, wrong), None]):
                with self.subTest(wrong):
                    self.refused(InvalidRule, wrong, call, *args)
        for call, args in self.calls([(HALF, None)]):
            self.refused(InvalidRule, None, call, *args)

    def test_equal_houses_mix(self):
        house = document_house()
        tied = House.tied([("ann", ["low", "high"]), ("bob", ["low"])], house.days())
        self.assertTrue(mixture([(HALF, Rule(house, {})), (HALF, Rule(tied, {}))]) == Rule(house, {}))

    def test_wrong_sums(self):
        rule = Rule(document_house(), {})
        for shares in [[HALF], [HALF, Ratio(1, 3)], [1, Ratio(1, 2)], [HALF, Ratio(10 ** 50 + 1, 2 * 10 ** 50)]]:
            expected = ratio(sum([fraction(share) if isinstance(share, Ratio) else share for share in shares]))
            for call, args in self.calls([(share, rule) for share in shares]):
                self.refused_with_equal(InvalidNumber, expected, call, *args)

    def test_drawn(self):
        rule = Rule(document_house(), {})
        parts = [(Ratio(1, 4), rule), (HALF, order_rule(document_house(), [LOW])), (Ratio(1, 4), rule)]
        for number, index in [(0, 0), (Ratio(1, 5), 0), (Ratio(1, 4), 1), (HALF, 1), (Ratio(749, 1000), 1),
                              (Ratio(3, 4), 2), (Ratio(10 ** 50 - 1, 10 ** 50), 2)]:
            told = drawn(parts=parts, number=number)
            self.assertIs(type(told), int)
            self.assertEqual(told, index)
        self.assertEqual(drawn(((1, rule),), 0), 0)
        for wrong in [*NO_SHARES, 1, Ratio(1), Ratio(5, 5)]:
            with self.subTest(wrong):
                self.refused(InvalidNumber, wrong, drawn, parts, wrong)

    def test_each_rule_as_often_as_its_share(self):
        draw = random.Random(61)
        rule = Rule(document_house(), {})
        weights = [draw.randint(1, 5) for _ in range(7)]
        parts = [(Ratio(weight, sum(weights)), rule) for weight in weights]
        told = [drawn(parts, Ratio(top, 2 * sum(weights))) for top in range(2 * sum(weights))]
        self.assertEqual(told, [index for index, weight in enumerate(weights) for _ in range(2 * weight)])


if __name__ == "__main__":
    unittest.main()
