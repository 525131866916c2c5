"""Promises 1 to 11 over the whole program: each function of each module, called in the same ways."""

import importlib
import inspect
import itertools
import random
import unittest
from fractions import Fraction

from tests.checks import Case, any_values, tied_house
from tests.samples import (
    document_house, excesses, fraction, long_house, long_share, plain_possible, possible_wish, random_wish,
    small_houses,
)
from tests.test_interface import CLASSES, FUNCTIONS
from winoften import errors
from winoften.best import best, is_roof, roof
from winoften.bounds import between, shows_between
from winoften.chains import chain, even_deal
from winoften.deals import dealt, deal_with, is_near, near_deal, shows_deal, wins
from winoften.desk import Desk
from winoften.errors import InvalidHouse, InvalidWish
from winoften.even import even, even_steps, is_even, shows_even
from winoften.houses import House
from winoften.less import (
    best_part, even_part, greatest_part, is_part_roof, part_roof, part_steps, shows_part, shows_part_steps,
)
from winoften.logs import order_from, seen_wish, shows_log
from winoften.mixtures import is_mixing, mixing
from winoften.payments import are_fair, best_income, greatest_payments, income
from winoften.possible import (
    answer, excess, factor, full_lots, is_answer, is_possible, room, top_lots, worst_lot,
)
from winoften.ratios import Ratio
from winoften.rules import Rule, as_order, drawn, mixture, order_rule, order_wish
from winoften.several import is_several_answer, is_several_mixing, several_answer, several_mixing
from winoften.things import answer_with, is_answer_with
from winoften.wishes import Wish

HALF = Ratio(1, 2)
LOW, HIGH, BOB = ("ann", "low"), ("ann", "high"), ("bob", "low")
DAYS = [("high", "low"), ("low", "low"), ("low", None)]
LOG = [(("high", "low"), "ann"), (("low", "low"), "bob"), (("low", None), None)]
THINGS = {"cup": [LOW, BOB], "jug": [BOB, HIGH]}
TABLE = {("low", "low"): {"bob": Ratio(1, 3)}, ("high", None): {"ann": 1}}
ROOF = [([BOB], 1), ([LOW, BOB], 1)]
NUMBERS = {LOW: Ratio(1, 4), BOB: HALF}
VALUES = {LOW: 2, HIGH: 3, BOB: 2}
WORTHS = {BOB: 2, LOW: 1}


def doors(house):
    """For each function: its module, its name, its arguments, those by name only, and the shape of what it tells."""
    wish, full = Wish(house, NUMBERS), order_wish(house, [HIGH, BOB, LOW])
    rule = Rule(house, TABLE)
    parts = [(HALF, rule), (HALF, order_rule(house, [BOB]))]
    corner = order_wish(house, [BOB, LOW])
    network = ([3, HALF], [1, 1], [(0, 0, None), (1, 1, 1)])
    mixed = [(HALF, [BOB]), (HALF, [LOW])]
    return [
        ("ratios", "is_number", [HALF], {}, "bool"), ("ratios", "is_amount", [1], {}, "bool"),
        ("ratios", "is_share", [HALF], {}, "bool"), ("ratios", "as_ratio", [1], {}, "Ratio"),
        ("ratios", "total", [[1, HALF]], {}, "Ratio"), ("ratios", "least", [[1, HALF]], {}, "int"),
        ("ratios", "greatest", [[1, HALF]], {}, "int"),
        ("lots", "lot_of", [house, [BOB, LOW]], {}, "[pair]"), ("lots", "coming", [house, [BOB]], {}, "Ratio"),
        ("lots", "gain", [house, [BOB], LOW], {}, "Ratio"), ("lots", "several", [house, [BOB, LOW], 2], {}, "Ratio"),
        ("lots", "alike", [house], {}, "[[str]]"),
        ("rules", "is_order", [house, [BOB]], {}, "bool"), ("rules", "winner", [house, [BOB], DAYS[0]], {}, "str"),
        ("rules", "order_rule", [house, [BOB]], {}, "Rule"), ("rules", "order_wish", [house, [BOB]], {}, "Wish"),
        ("rules", "as_order", [parts[1][1]], {}, "[pair]"), ("rules", "mixture", [parts], {}, "Rule"),
        ("rules", "drawn", [parts, HALF], {}, "int"),
        ("flows", "greatest_flow", list(network), {}, "(Ratio, [Ratio], ([int], [int]))"),
        ("flows", "is_flow", [*network, [1, HALF]], {}, "bool"),
        ("flows", "is_cut", [*network, ([0], [0]), 2], {}, "bool"),
        ("possible", "excess", [wish, [BOB, LOW]], {}, "Ratio"),
        ("possible", "worst_lot", [wish.scaled(3)], {}, "[pair]"),
        ("possible", "answer", [wish], {}, "(str, Rule)"), ("possible", "is_possible", [wish], {}, "bool"),
        ("possible", "is_answer", [wish.scaled(9), ("lot", [BOB, LOW])], {}, "bool"),
        ("possible", "top_lots", [wish], {}, "[[pair]]"), ("possible", "full_lots", [full], {}, "[[pair]]"),
        ("possible", "room", [wish, LOW], {}, "Ratio"), ("possible", "binding", [wish, LOW], {}, "[pair]"),
        ("possible", "factor", [wish], {}, "Ratio"),
        ("mixtures", "mixing", [wish], {}, "[(Ratio, [pair])]"),
        ("mixtures", "is_mixing", [order_wish(house, [BOB]).mixed(order_wish(house, [LOW]), HALF), mixed], {}, "bool"),
        ("mixtures", "corner_order", [corner], {}, "[pair]"), ("mixtures", "corners", [house], {}, "[Wish]"),
        ("mixtures", "same_orders", [house, [BOB, LOW], [LOW, BOB]], {}, "bool"),
        ("best", "worth_of", [wish, WORTHS], {}, "Ratio"), ("best", "best", [house, WORTHS], {}, "(Ratio, [pair])"),
        ("best", "roof", [house, WORTHS], {}, "[([pair], Ratio)]"),
        ("best", "is_roof", [house, WORTHS, ROOF, Ratio(5, 4)], {}, "bool"), ("best", "lost", [wish, WORTHS], {}, "Ratio"),
        ("best", "worths_for", [house, [BOB, LOW]], {}, "{pair: Ratio}"),
        ("even", "even", [house], {"weights": {BOB: 2}}, "Wish"),
        ("even", "even_steps", [house], {"weights": {BOB: 2}}, "[(Ratio, [pair])]"),
        ("even", "is_even", [even(house)], {"weights": {BOB: 1}}, "bool"),
        ("even", "shows_even", [even(house), [(Ratio(2, 3), [BOB, LOW, HIGH])]], {"weights": None}, "bool"),
        ("even", "even_groups", [house, [[BOB], [HIGH, LOW]]], {}, "([Ratio], Wish)"),
        ("bounds", "between", [house, {BOB: (HALF, 1)}], {"served": [LOW]}, "(str, Wish)"),
        ("bounds", "shows_between", [house, {BOB: (2, None)}, ("much", [BOB])], {"served": [LOW]}, "bool"),
        ("bounds", "spans", [house, {BOB: (0, 1)}], {"served": [LOW, BOB]}, "{pair: (Ratio, Ratio)}"),
        ("several", "several_excess", [wish, [BOB, LOW], 2], {}, "Ratio"),
        ("several", "several_answer", [wish, 2], {}, "(str, {day: {str: Ratio}})"),
        ("several", "is_several_answer", [wish.scaled(9), ("lot", [BOB, LOW]), 2], {}, "bool"),
        ("several", "several_winners", [house, [BOB, LOW], DAYS[1], 2], {}, "[str]"),
        ("several", "several_wish", [house, [BOB, LOW], 2], {}, "Wish"),
        ("several", "several_mixing", [wish, 2], {}, "[(Ratio, [pair])]"),
        ("several", "is_several_mixing", [corner, [(1, [BOB, LOW])], 1], {}, "bool"),
        ("several", "several_best", [house, WORTHS, 2], {}, "(Ratio, [pair])"),
        ("several", "several_roof", [house, WORTHS, 2], {}, "[([pair], Ratio)]"),
        ("several", "fewest_things", [wish], {}, "int"),
        ("payments", "fall", [Wish(house, {LOW: 1}), VALUES], {}, "(pair, pair)"),
        ("payments", "are_fair", [full, VALUES, {LOW: Ratio(1, 9)}], {}, "bool"),
        ("payments", "lies", [full, VALUES, {HIGH: 9}], {}, "[(pair, str)]"),
        ("payments", "greatest_payments", [full, VALUES], {}, "{pair: Ratio}"),
        ("payments", "income", [house, {LOW: 1}], {}, "Ratio"), ("payments", "evened", [house, VALUES], {}, "{pair: Ratio}"),
        ("payments", "best_income", [house, VALUES], {}, "(Ratio, [pair])"),
        ("logs", "fits", [house, [HIGH, BOB], LOG], {}, "bool"), ("logs", "order_from", [house, LOG], {}, "(str, [pair])"),
        ("logs", "shows_log", [house, LOG, ("order", [HIGH, BOB])], {}, "bool"),
        ("logs", "next_winners", [house, LOG[1:], DAYS[0]], {}, "[str]"), ("logs", "open_day", [house, LOG[1:]], {}, "day"),
        ("logs", "counts", [house, LOG], {}, "{pair: (int, int)}"), ("logs", "seen_wish", [house, LOG], {}, "Wish"),
        ("less", "held_down", [wish, [BOB]], {}, "Ratio"),
        ("less", "greatest_part", [wish.scaled(9)], {}, "(Wish, [pair])"),
        ("less", "shows_part", [wish, (wish, [])], {}, "bool"),
        ("less", "best_part", [wish, WORTHS], {}, "(Ratio, Wish)"),
        ("less", "part_roof", [wish.scaled(9), WORTHS], {}, "[([pair], [pair], Ratio)]"),
        ("less", "is_part_roof", [wish, {BOB: 1}, [([BOB], [BOB], 1)], HALF], {}, "bool"),
        ("less", "even_part", [wish], {}, "Wish"), ("less", "part_steps", [wish], {}, "[(Ratio, [pair])]"),
        ("less", "shows_part_steps", [wish, wish, [(1, [LOW, BOB])]], {}, "bool"),
        ("less", "growing", [wish], {}, "[(Ratio, [pair])]"), ("less", "part_total", [wish, 3], {}, "Ratio"),
        ("deals", "wins", [house, DAYS, ["ann", None, "ann"]], {}, "{pair: (int, int)}"),
        ("deals", "dealt", [house, DAYS, [LOW, HIGH]], {}, "[str]"), ("deals", "met", [house, DAYS, [BOB]], {}, "int"),
        ("deals", "deal_with", [house, DAYS, {BOB: (2, None)}], {"given": 3}, "(str, [str])"),
        ("deals", "shows_deal", [house, DAYS, {BOB: (3, None)}, ("much", [BOB])], {"given": 0}, "bool"),
        ("deals", "near_deal", [house, DAYS, wish], {}, "(str, [str])"),
        ("deals", "is_near", [house, DAYS, wish, ["bob", None, None]], {}, "bool"),
        ("chains", "even_deal", [house, DAYS], {}, "[str]"),
        ("chains", "chain", [house, DAYS, ["ann", "ann", "ann"]], {}, "[(int, str)]"),
        ("chains", "is_chain", [house, DAYS, ["ann", "ann", "ann"], [(1, "bob")]], {}, "bool"),
        ("things", "served", [house, THINGS, [BOB, LOW], DAYS[1]], {}, "int"),
        ("things", "winners_with", [house, THINGS, [BOB, LOW], DAYS[1]], {}, "[str]"),
        ("things", "things_given", [house, THINGS, [BOB, LOW], DAYS[1]], {}, "{str: str}"),
        ("things", "can_have_with", [house, THINGS, [BOB, LOW]], {}, "Ratio"),
        ("things", "order_wish_with", [house, THINGS, [BOB, LOW]], {}, "Wish"),
        ("things", "answer_with", [wish, THINGS], {}, "(str, [(Ratio, [pair])])"),
        ("things", "is_answer_with", [wish.scaled(9), THINGS, ("lot", [BOB, LOW])], {}, "bool"),
        ("things", "best_with", [house, THINGS, WORTHS], {}, "(Ratio, [pair])"),
        ("things", "roof_with", [house, THINGS, WORTHS], {}, "[([pair], Ratio)]"),
    ]


def function(module, name):
    return getattr(importlib.import_module("winoften." + module), name)


def shape(value):
    """The kind of a value, and of that of its items that tells most."""
    if isinstance(value, list):
        return "[" + max([shape(item) for item in value], key=len, default="") + "]"
    if isinstance(value, dict):
        return "{" + ", ".join([f"{shape(key)}: {shape(item)}" for key, item in list(value.items())[:1]]) + "}"
    if value in document_house().pairs():
        return "pair"
    if isinstance(value, tuple) and value in [day for day, _ in document_house().days()]:
        return "day"
    if isinstance(value, tuple):
        return "(" + ", ".join([shape(item) for item in value]) + ")"
    return "-" if value is None else type(value).__name__


def same(one, other):
    """Whether two values are equal and of the same kinds, inner ones and the order of the keys of dicts included."""
    if type(one) is not type(other):
        return False
    if isinstance(one, (list, tuple)):
        return len(one) == len(other) and all(same(left, right) for left, right in zip(one, other))
    if isinstance(one, dict):
        return same(list(one.items()), list(other.items()))
    return one == other


def copied(value):
    """A value with new lists, tuples and dicts, and the very objects in them."""
    if isinstance(value, (list, tuple)):
        return type(value)([copied(item) for item in value])
    if isinstance(value, dict):
        return {copied(key): copied(item) for key, item in value.items()}
    return value


def with_tuples(value):
    """A value with tuples in the place of all lists."""
    if isinstance(value, (list, tuple)):
        return tuple([with_tuples(item) for item in value])
    if isinstance(value, dict):
        return {key: with_tuples(item) for key, item in value.items()}
    return value


def with_other_numbers(value):
    """A value with Ratios in the place of amounts that are integers, where that makes no other value."""
    if isinstance(value, dict):
        return {key: with_other_numbers(item) for key, item in value.items()}
    return Ratio(value) if type(value) is int else value


def spoilt(value):
    """Change all lists and dicts of a value."""
    for item in list(value.values()) if isinstance(value, dict) else value if isinstance(value, (list, tuple)) else []:
        spoilt(item)
    if isinstance(value, (list, dict)):
        value.clear()


def told_otherwise():
    """The house of the document, told by its days, in another order, with tuples."""
    days = document_house().days()[::-1]
    return House.tied((("ann", ("low", "high")), ("bob", ("low",))), tuple(days))


class Doors(Case):
    def test_all_functions_are_here(self):
        told = sorted([(module, name) for module, name, *_ in doors(document_house())] + [("lots", "all_lots")])
        expected = [(module, row.partition("(")[0]) for module, rows in FUNCTIONS.items() for row in rows]
        self.assertEqual(told, sorted(expected))

    def test_shapes(self):
        for module, name, args, named, expected in doors(document_house()):
            with self.subTest(name):
                self.assertEqual(shape(function(module, name)(*args, **named)), expected)

    def test_by_names(self):
        for module, name, args, named, _ in doors(document_house()):
            call = function(module, name)
            names = list(inspect.signature(call).parameters)
            with self.subTest(name):
                self.assertTrue(same(call(*args, **named), call(**dict(zip(names, args)), **named)))
                for only in named:
                    kind = inspect.signature(call).parameters[only].kind
                    self.assertIs(kind, inspect.Parameter.KEYWORD_ONLY)

    def test_equal_houses_give_equal_answers(self):
        for one, other in zip(doors(document_house()), doors(told_otherwise())):
            module, name, args, named, _ = one
            with self.subTest(name):
                call = function(module, name)
                self.assertTrue(same(call(*args, **named), call(*other[2], **other[3])))

    def test_tuples_count_as_lists(self):
        for module, name, args, named, _ in doors(document_house()):
            with self.subTest(name):
                call = function(module, name)
                found = call(*[with_tuples(arg) for arg in args], **with_tuples(named))
                self.assertTrue(same(call(*args, **named), found))

    def test_integers_count_as_ratios(self):
        for module, name, args, named, _ in doors(document_house()):
            if module in ("best", "payments", "less", "even"):
                with self.subTest(name):
                    call = function(module, name)
                    changed = [with_other_numbers(arg) if isinstance(arg, dict) else arg for arg in args]
                    self.assertTrue(same(call(*args, **named), call(*changed, **with_other_numbers(named))))

    def test_arguments_stay(self):
        for module, name, args, named, _ in doors(document_house()):
            with self.subTest(name):
                kept, kept_named = copied(args), copied(named)
                function(module, name)(*args, **named)
                self.assertTrue(same(args, kept) and same(named, kept_named))

    def test_new_results_each_time(self):
        for module, name, args, named, _ in doors(document_house()):
            with self.subTest(name):
                call = function(module, name)
                first = call(*copied(args), **named)
                kept = copied(first)
                spoilt(first)
                self.assertTrue(same(call(*args, **named), kept))

    def test_changed_arguments_change_no_object(self):
        for module, name, args, named, _ in doors(document_house()):
            with self.subTest(name):
                given, given_named = copied(args), copied(named)
                found = function(module, name)(*given, **given_named)
                kept = copied(found)
                spoilt(given)
                spoilt(given_named)
                self.assertTrue(same(found, kept))

    def test_first_arguments(self):
        for module, name, args, named, _ in doors(document_house()):
            for expected, kind in ((House, InvalidHouse), (Wish, InvalidWish)):
                if isinstance(args[0], expected):
                    for wrong in [*[other for other in any_values() if not isinstance(other, expected)], expected,
                                  Wish(tied_house(), {}) if expected is House else document_house(), Desk()]:
                        with self.subTest(name=name, wrong=wrong):
                            self.refused(kind, wrong, function(module, name), wrong, *args[1:], **named)
                            self.refused(kind, wrong, function(module, name), wrong, *[None for _ in args[1:]], **named)

    def test_every_wrong_argument_is_told(self):
        # Whatever stands in the place of an argument, the program answers or raises one of its own exceptions.
        for module, name, args, named, _ in doors(document_house()):
            for place in range(len(args)):
                for wrong in any_values():
                    if name in ("as_ratio", "all_lots") and place == 0 or wrong == 10 ** 60:
                        continue
                    given = copied(args)
                    given[place] = wrong
                    with self.subTest(name=name, place=place, wrong=wrong):
                        try:
                            function(module, name)(*given, **named)
                        except errors.WinError as error:
                            self.assertIs(type(error).__bases__[0], errors.WinError)

    def test_methods_by_names(self):
        wish, rule, house = Wish(document_house(), NUMBERS), Rule(document_house(), TABLE), document_house()
        self.assertEqual(sorted({name for _, name in CLASSES}), ["Desk", "House", "Ratio", "Rule", "Wish"])
        for one, other in [
            (wish.want([LOW]), wish.want(lot=(LOW,))), (wish.of_bidder("ann"), wish.of_bidder(name="ann")),
            (wish.scaled(2), wish.scaled(factor=Ratio(2))), (wish.mixed(wish, 1), wish.mixed(other=wish, share=1)),
            (wish.with_number(LOW, 1), wish.with_number(pair=LOW, number=1)), (wish.number(LOW), wish.number(pair=LOW)),
            (wish.within(wish), wish.within(other=wish)), (rule.share(DAYS[1], "bob"), rule.share(day=DAYS[1], name="bob")),
            (rule.shares(DAYS[1]), rule.shares(day=DAYS[1])), (house.kinds("ann"), house.kinds(name="ann")),
            (house.chance(LOW), house.chance(pair=LOW)), (house.there(DAYS[0]), house.there(day=DAYS[0])),
            (house.day_chance(DAYS[0]), house.day_chance(day=DAYS[0])), (HALF.below(1), HALF.below(number=1)),
            (HALF.over(2), HALF.over(number=2)), (Ratio(1, 2), Ratio(top=1, bottom=2)),
            (Ratio.read("1/2"), Ratio.read(text="1/2")), (House.read(str(house)), House.read(text=str(house))),
            (Wish.read(house, str(wish)), Wish.read(house=house, text=str(wish))),
            (Rule.read(house, str(rule)), Rule.read(house=house, text=str(rule))),
            (Wish(house, NUMBERS), Wish(house=house, numbers=NUMBERS)), (Rule(house, TABLE), Rule(house=house, table=TABLE)),
        ]:
            self.assertTrue(same(one, other))

    def test_unlike_classes_are_unequal(self):
        wish, rule, house = Wish(document_house(), {}), Rule(document_house(), {}), document_house()
        values = [wish, rule, house, str(wish), wish.numbers(), Ratio(1), [wish], Desk()]
        for one, other in itertools.permutations(values, 2):
            self.assertFalse(one == other)
        self.assertTrue(Ratio(1) == 1 and not Ratio(1) == True and not Ratio(0) == False)  # noqa: E712


class EqualHouses(Case):
    def answers(self, draw, house):
        """What many functions tell of a house, with the same arguments for the same draw."""
        wish, other = random_wish(draw, house), possible_wish(draw, house, 4)
        worths = {pair: draw.randint(-1, 3) for pair in house.pairs()}
        bounds = {pair: (0, HALF) for pair in draw.sample(house.pairs(), draw.randint(0, len(house)))}
        lot = draw.sample(house.pairs(), draw.randint(1, len(house)))
        days = [draw.choice(house.days())[0] for _ in range(5)]
        things = {"a": lot, "b": house.pairs()}
        return [
            str(house), house.days(), answer(wish), answer(other), worst_lot(wish), mixing(other), factor(wish),
            best(house, worths), roof(house, worths), even_steps(house), between(house, bounds, served=lot),
            several_answer(wish, 2), several_mixing(other, 2), greatest_part(wish), best_part(wish, worths),
            part_roof(wish, worths), part_steps(wish), deal_with(house, days, {}), near_deal(house, days, other),
            even_deal(house, days), answer_with(other, things), answer_with(wish, things),
        ]

    def test_independent_houses_told_by_days(self):
        seen = 0
        for place, house in enumerate(small_houses(22, 60)):
            if house.independent and len(house.days()) <= 60:
                seen += 1
                other = House.tied([(name, house.kinds(name)) for name in house.names()], house.days()[::-1])
                self.assertTrue(other == house and other.independent)
                one, again = [self.answers(random.Random(place), some) for some in (house, other)]
                self.assertTrue(same(one, again))
        self.assertGreater(seen, 20)


class Guarantees(Case):
    """The points of [11]."""

    def test_possible_exactly_if_no_lot_wants_more_than_its_coming(self):
        draw = random.Random(11)
        for house in small_houses(12, 25, 5):
            for wish in (random_wish(draw, house), possible_wish(draw, house)):
                self.assertEqual(is_possible(wish), max(excesses(wish).values()) <= 0)
                word, found = answer(wish)
                self.assertEqual(word == "rule", is_possible(wish))
                self.assertTrue(found.wish() == wish if word == "rule" else Ratio(0).below(excess(wish, found)))

    def test_top_lots_are_enough_for_independent_houses_only(self):
        draw = random.Random(13)
        others = 0
        for house in small_houses(14, 80):
            for _ in range(4):
                wish = random_wish(draw, house)
                tops = max([fraction(excess(wish, lot)) for lot in top_lots(wish)])
                greatest = max(excesses(wish).values())
                if house.independent:
                    self.assertEqual(tops, greatest)
                elif tops <= 0 < greatest:
                    others += 1
        self.assertGreater(others, 0)

    def test_mixtures_of_few_orders(self):
        draw = random.Random(15)
        for house in small_houses(16, 25):
            wish = possible_wish(draw, house, 5)
            parts = mixing(wish)
            self.assertLessEqual(len(parts), len(house) + 1)
            mixed = mixture([(share, order_rule(house, order)) for share, order in parts])
            self.assertTrue(mixed.wish() == wish)
            self.assertIs(is_answer(wish, ("rule", mixed)), True)
            self.assertEqual(parts[drawn([(share, order_rule(house, order)) for share, order in parts], 0)], parts[0])

    def test_full_lots_together_and_in_common(self):
        draw = random.Random(17)
        for house in small_houses(18, 40):
            full = [frozenset(lot) for lot in full_lots(possible_wish(draw, house, draw.choice([1, 2, 3])))]
            for one, other in itertools.combinations(full, 2):
                self.assertIn(one | other, full)
                self.assertIn(one & other, full)


class Together(Case):
    """What is told by one function is taken by the others."""

    def houses(self):
        draw = random.Random(19)
        return draw, [house for house in small_houses(20, 25) if len(house) > 1]

    def test_wishes(self):
        draw, houses = self.houses()
        for house in houses:
            wish = random_wish(draw, house)
            lot = worst_lot(wish)
            self.assertIs(is_answer(wish, answer(wish)), True)
            part, found = greatest_part(wish)
            self.assertIs(shows_part(wish, (part, lot)), True)
            self.assertIs(shows_part(wish, (part, found)), True)
            self.assertIs(is_mixing(part, mixing(part)), True)
            self.assertIs(is_possible(part), True)
            if wish.total() != 0:
                edge = wish.scaled(factor(wish))
                self.assertIs(is_possible(edge), True)
                self.assertIn(0, [room(edge, pair) for pair in house.pairs()])
                self.assertEqual(part_steps(edge), [(1, [pair for pair in house.pairs() if edge.number(pair) != 0])])
                self.assertTrue(even_part(edge) == edge)
            self.assertIs(shows_part_steps(wish, even_part(wish), part_steps(wish)), True)
            self.assertTrue(Wish.read(house, str(wish)) == wish)
            bounds = {pair: (0, number) for pair, number in wish.numbers().items()}
            told = between(house, bounds)
            self.assertTrue(told[0] == "wish" and told[1].within(wish))
            self.assertIs(shows_between(house, bounds, ("wish", part)), True)

    def test_orders_and_worths(self):
        draw, houses = self.houses()
        for house in houses:
            order = draw.sample(house.pairs(), draw.randint(1, len(house)))
            rule = order_rule(house, order)
            self.assertTrue(order_rule(house, as_order(rule)) == rule)
            self.assertTrue(Rule.read(house, str(rule)) == rule)
            days = [day for day, _ in house.days()][:20]
            deal = dealt(house, days, order)
            log = list(zip(days, deal))
            self.assertIs(shows_log(house, log, ("order", order)), True)
            self.assertIs(shows_log(house, log, order_from(house, log)), True)
            self.assertEqual(seen_wish(house, log), Wish(house, {
                pair: Ratio(won, many) for pair, (won, many) in wins(house, days, deal).items() if many}))
            self.assertIs(is_near(house, days, seen_wish(house, log), deal), True)
            self.assertIs(shows_deal(house, days, {}, deal_with(house, days, {})), True)
            self.assertIsNone(chain(house, days, even_deal(house, days)))
            worths = {pair: draw.randint(-2, 4) for pair in house.pairs()}
            worth, found = best(house, worths)
            self.assertIs(is_roof(house, worths, roof(house, worths), worth), True)
            full = Wish(house, {pair: 1 for pair in house.pairs()})
            self.assertEqual(best_part(full, worths)[0], worth)
            self.assertIs(is_part_roof(full, worths, part_roof(full, worths), worth), True)
            self.assertIs(is_part_roof(full, worths, [(lot, lot, weight) for lot, weight in roof(house, worths)], worth),
                          True)
            self.assertIs(is_possible(order_wish(house, found)), True)

    def test_even_wishes(self):
        _, houses = self.houses()
        for house in houses:
            wish = even(house)
            self.assertTrue(is_even(wish) and shows_even(wish, even_steps(house)))
            self.assertIs(is_possible(wish), True)
            self.assertTrue(even_part(Wish(house, {pair: 1 for pair in house.pairs()})) == wish)
            desk = Desk()
            desk.run_all(["house " + str(house).replace("\n", " / "), "even"])
            self.assertTrue(desk.wish_now() == wish and desk.house_now() == house)
            self.assertTrue(desk.run("possible") == ["yes"])

    def test_several_and_unlike_things(self):
        draw, houses = self.houses()
        for house in houses:
            wish = random_wish(draw, house)
            for most in (1, 2, 3, 4):
                things = {name: house.pairs() for name in ["a", "b", "c", "d"][:most]}
                word, found = several_answer(wish, most)
                self.assertIs(is_several_answer(wish, (word, found), most), True)
                if word == "table":
                    parts = several_mixing(wish, most)
                    self.assertIs(is_several_mixing(wish, parts, most), True)
                    if len(house) <= 8:
                        self.assertIs(is_answer_with(wish, things, ("mixing", parts)), True)
                        self.assertIs(is_several_mixing(wish, answer_with(wish, things)[1], most), True)
                else:
                    self.assertIs(is_answer_with(wish, things, (word, found)), True)
                if most == 1:
                    self.assertEqual(word == "table", plain_possible(wish))

    def test_payments(self):
        draw, houses = self.houses()
        for house in houses:
            if house.independent:
                values = {pair: draw.randint(0, 3) * 4 + place % 4 for place, pair in enumerate(house.pairs())}
                told, order = best_income(house, values)
                paid = greatest_payments(order_wish(house, order), values)
                self.assertIs(are_fair(order_wish(house, order), values, paid), True)
                self.assertEqual(income(house, paid), told)

    def test_long_numbers_are_passed_on(self):
        draw = random.Random(21)
        house = long_house(draw)
        wish = Wish(house, {pair: long_share(draw) for pair in house.pairs()})
        part, lot = greatest_part(wish)
        self.assertIs(shows_part(wish, (part, lot)), True)
        self.assertIs(is_answer(part, answer(part)), True)
        days = [day for day, _ in house.days()][::7][:89]
        word, found = near_deal(house, days, part.scaled(Ratio(1, 3)))
        if word == "deal":
            self.assertIs(is_near(house, days, part.scaled(Ratio(1, 3)), found), True)
        self.assertIs(shows_part_steps(part, even_part(part), part_steps(part)), True)
        self.assertEqual(sum([fraction(chance) for _, chance in house.days()], Fraction(0)), 1)


if __name__ == "__main__":
    unittest.main()
