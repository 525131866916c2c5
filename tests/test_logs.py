"""Promises 141 to 145: logs."""

import itertools
import random
import unittest

from tests.checks import Case, any_values, large_house, tied_house
from tests.samples import document_house, every_order, small_houses, sure_house, there
from tests.test_houses import NO_DOUBLES, all_days
from tests.test_lots import NO_HOUSES
from tests.test_rules import no_days, no_orders
from winoften.errors import InvalidDay, InvalidHouse, InvalidLog, InvalidOrder, UnknownName
from winoften.houses import House
from winoften.logs import counts, fits, next_winners, open_day, order_from, seen_wish, shows_log
from winoften.ratios import Ratio
from winoften.rules import is_order
from winoften.wishes import Wish

LOW, HIGH, BOB = ("ann", "low"), ("ann", "high"), ("bob", "low")
LOG = [(("high", "low"), "ann"), (("low", "low"), "bob"), (("low", None), None)]
NO_LOGS = [None, True, 0, Ratio(1), "", "ann", {}, {("low", "low"): "ann"}, [LOG[0]] * 101, (LOG[0],) * 101, [None] * 101,
           tied_house()]


def plain_winner(house, order, day):
    winners = [name for name, kind in order if (name, kind) in there(house, day)]
    return winners[0] if winners else None


def plain_fits(house, order, log):
    return all(plain_winner(house, order, day) == name for day, name in log)


def fitting_orders(house, log):
    return [order for order in every_order(house) if plain_fits(house, order, log)]


def random_log(draw, house):
    """A log that an order fits, or nearly so, or on which anybody won."""
    if draw.random() < 0.3:
        days = [day for day in all_days(house) if len(there(house, day)) > 1] or all_days(house)[:1]
        chosen = [draw.choice(days) for _ in range(draw.randint(2, 6))]
        return [(day, draw.choice(there(house, day))[0]) for day in chosen]
    order = draw.sample(house.pairs(), draw.randint(0, len(house)))
    log = []
    mistakes = draw.choice([0, 0, 0, 0.1, 0.5])
    for _ in range(draw.randint(0, 7)):
        day = draw.choice(all_days(house))
        name = plain_winner(house, order, day)
        if draw.random() < mistakes:
            name = draw.choice([None, *[name for name, _ in there(house, day)]])
        log.append((day, name))
    return log


def winner_of(house, item):
    day, name = item
    return dict(there(house, day)).get(name) and (name, dict(there(house, day))[name])


def is_plain_ring(house, log, ring):
    """Whether indices are a ring, by the definition."""
    for place, index in enumerate(ring):
        before = winner_of(house, log[ring[place - 1]])
        now = winner_of(house, log[index])
        if now is None or before is None or before == now or before not in there(house, log[index][0]):
            return False
    return len(ring) > 0


def is_plain_two(house, log, two):
    first, second = two
    won = winner_of(house, log[first])
    return won is not None and log[second][1] is None and won in there(house, log[second][0])


class WrongArguments(Case):
    def calls(self):
        """All functions with a log: the call, what stands before the log, what stands behind it."""
        return [(fits, ([],), ()), (order_from, (), ()), (shows_log, (), (None,)), (next_winners, (), (None,)),
                (open_day, (), ()), (counts, (), ()), (seen_wish, (), ())]

    def test_wrong_houses(self):
        for call, before, behind in self.calls():
            for wrong in NO_HOUSES:
                self.refused(InvalidHouse, wrong, call, wrong, *[None for _ in before], None, *behind)

    def test_wrong_orders(self):
        for wrong in no_orders():
            with self.subTest(wrong):
                self.refused(InvalidOrder, wrong, fits, document_house(), wrong, None)

    def test_wrong_logs(self):
        house = document_house()
        for call, before, behind in self.calls():
            for wrong in NO_LOGS:
                self.refused(InvalidLog, wrong, call, house, *before, wrong, *behind)
            for wrong in [*NO_DOUBLES, [("low", "low"), "ann"]]:
                self.refused(InvalidLog, wrong, call, house, *before, [LOG[0], wrong, None], *behind)

    def test_wrong_days_and_names(self):
        house = document_house()
        for call, before, behind in self.calls():
            for wrong in no_days():
                with self.subTest(call=call, wrong=wrong):
                    self.refused(InvalidDay, wrong, call, house, *before, [LOG[0], (wrong, "zed"), None], *behind)
            for wrong in [value for value in any_values() if value is not None] + ["bob", "low", LOW, ["ann"]]:
                with self.subTest(call=call, wrong=wrong):
                    self.refused(UnknownName, wrong, call, house, *before, [LOG[0], (("low", None), wrong), None],
                                 *behind)

    def test_wrong_further_days(self):
        for wrong in no_days():
            with self.subTest(wrong):
                self.refused(InvalidDay, wrong, next_winners, document_house(), LOG, wrong)

    def test_days_with_the_chance_0(self):
        house = tied_house()
        log = [(("a", "a"), "ann"), ((None, None), None)]
        self.assertEqual(order_from(house, log), ("order", [("ann", "a")]))
        self.assertEqual(next_winners(house, log, ("a", "a")), ["ann"])

    def test_a_hundred_items(self):
        house = document_house()
        log = LOG * 33 + LOG[:1]
        self.assertEqual(order_from(house, log), ("order", [HIGH, BOB]))
        self.assertIs(fits(house, [HIGH, BOB], log), True)
        self.assertIs(shows_log(house, log, ("order", (HIGH, BOB))), True)
        self.assertEqual(next_winners(house, log, ("high", None)), ["ann"])
        self.assertEqual(counts(house, log), {LOW: (0, 66), HIGH: (34, 34), BOB: (33, 67)})


class Orders(Case):
    def checked(self, house, log):
        """The word that is told of a log; what is told with it is checked by the definition."""
        told = order_from(house=house, log=log)
        self.assertIs(type(told), tuple)
        word, shown = told
        if word == "order":
            self.assertIs(type(shown), list)
            self.assertTrue(is_order(house, shown) and plain_fits(house, shown, log))
        elif word == "ring":
            self.assertIs(type(shown), list)
            self.assertTrue(is_plain_ring(house, log, shown))
        else:
            self.assertEqual(word, "nobody")
            self.assertIs(type(shown), tuple)
            self.assertTrue(is_plain_two(house, log, shown))
        self.assertIs(shows_log(house=house, log=log, told=told), True)
        return word

    def test_document_example(self):
        house = document_house()
        self.assertEqual([order_from(house, LOG), fits(house, [HIGH], LOG), next_winners(house, LOG, ("high", None))],
                         [("order", [HIGH, BOB]), False, ["ann"]])
        self.assertEqual([order_from(house, [*LOG, (("low", None), "ann")]),
                          shows_log(house, [(("low", "low"), "ann"), (("low", "low"), "bob")], ("ring", [1, 0]))],
                         [("nobody", (3, 2)), True])

    def test_an_order_exactly_if_one_fits(self):
        draw = random.Random(141)
        words = {"order": 0, "ring": 0, "nobody": 0}
        for house in small_houses(142, 60, 5):
            for _ in range(10):
                log = random_log(draw, house)
                word = self.checked(house, log)
                words[word] += 1
                self.assertEqual(word == "order", bool(fitting_orders(house, log)))
        self.assertGreater(min(words.values()), 30)

    def test_fits(self):
        draw = random.Random(143)
        seen = {True: 0, False: 0}
        for house in small_houses(144, 20, 4):
            for _ in range(5):
                log = random_log(draw, house)
                for order in every_order(house):
                    expected = plain_fits(house, order, log)
                    self.assertIs(fits(house=house, order=order, log=log), expected)
                    self.assertIs(shows_log(house, log, ("order", tuple(order))), expected)
                    seen[expected] += 1
        self.assertGreater(min(seen.values()), 100)

    def test_long_rings(self):
        house = House([(name, [(kind, Ratio(1, 5)) for kind in "abcd"]) for name in ("w", "x", "y", "z")])
        days = [("a", "a", None, None), (None, "a", "a", None), (None, None, "a", "a"), ("b", None, None, "a"),
                ("b", "b", None, None), ("a", "b", None, None)]
        log = [(day, name) for day, name in zip(days, ("w", "x", "y", "z", "w", "x"))]
        self.assertEqual(self.checked(house, log), "ring")
        for missing in range(6):
            self.assertEqual(self.checked(house, log[:missing] + log[missing + 1:]), "order")
        ring = order_from(house, log)[1]
        self.assertEqual(sorted(ring), [0, 1, 2, 3, 4, 5])
        self.assertIs(shows_log(house, log, ("ring", ring[2:] + ring[:2])), True)
        self.assertIs(shows_log(house, log, ("ring", tuple(ring * 2))), True)
        self.assertIs(shows_log(house, log, ("ring", ring[::-1])), False)
        self.assertIs(shows_log(house, log, ("ring", ring[1:])), False)

    def test_judged_rings_and_items(self):
        draw = random.Random(145)
        seen = {True: 0, False: 0}
        for house in small_houses(146, 100, 5):
            log = random_log(draw, house)[:4]
            indices = range(len(log))
            for size in (1, 2, 3):
                for ring in itertools.product(indices, repeat=size):
                    expected = is_plain_ring(house, log, ring)
                    seen[expected] += 1
                    self.assertIs(shows_log(house, log, ("ring", list(ring))), expected)
            for two in itertools.product(indices, repeat=2):
                expected = is_plain_two(house, log, two)
                seen[expected] += 1
                self.assertIs(shows_log(house, log, ("nobody", two)), expected)
        self.assertGreater(min(seen.values()), 40)

    def test_other_values(self):
        house = document_house()
        ring = [(("low", "low"), "ann"), (("low", "low"), "bob"), (("low", "low"), None)]
        self.assertIs(shows_log(house, ring, ("ring", [0, 1])), True)
        self.assertIs(shows_log(house, ring, ("nobody", (1, 2))), True)
        for told in [["ring", [0, 1]], ("ring", [0, 1], 1), ("ring", [0]), ("ring", []), ("ring", [0, True]), ("ring",),
                     ("ring", [0, 2]), ("ring", [0, -2]), ("ring", [0, 3]), ("ring", [0, "1"]), ("ring", [0, Ratio(1)]),
                     ("ring", None), ("nobody", [1, 2]), ("nobody", (1, 2, 0)), ("nobody", (2, 1)), ("nobody", (1, 1)),
                     ("nobody", (True, 2)), ("nobody", (0, 3)), ("nobody", (-2, 2)), ("nobody", (1, Ratio(2))),
                     ("order", [0, 1]), ("order", (1, 2)), ("nobody", [[1], 2]), ("ring", [[0], [1]]), "ring",
                     *any_values(), *[(word, other) for word in ("ring", "nobody") for other in any_values()]]:
            with self.subTest(told):
                self.assertIs(shows_log(house, ring, told), False)
        for other in [*no_orders(), None]:
            with self.subTest(other):
                self.assertIs(shows_log(house, [], ("order", other)), False)
        self.assertIs(shows_log(house, [], ("order", [])), True)
        self.assertIs(shows_log(house, [], ("ring", [])), False)

    def test_new_and_equal_results(self):
        house = document_house()
        order_from(house, LOG)[1].clear()
        next_winners(house, LOG, ("high", None)).clear()
        counts(house, LOG).clear()
        self.assertEqual(order_from(house, tuple(LOG)), ("order", [HIGH, BOB]))
        again = House.tied([("ann", ("low", "high")), ("bob", ["low"])], house.days()[::-1])
        self.assertEqual(order_from(again, LOG), order_from(house, LOG))
        self.assertEqual(LOG, [(("high", "low"), "ann"), (("low", "low"), "bob"), (("low", None), None)])


class FurtherDays(Case):
    def test_by_all_orders(self):
        draw = random.Random(147)
        seen = set()
        for house in small_houses(148, 40, 5):
            for _ in range(6):
                log = random_log(draw, house)
                orders = fitting_orders(house, log)
                several = []
                for day in all_days(house):
                    found = {plain_winner(house, order, day) for order in orders}
                    expected = [name for name, _ in there(house, day) if name in found]
                    expected += [None] if None in found else []
                    told = next_winners(house=house, log=log, day=day)
                    self.assertIs(type(told), list)
                    self.assertEqual(told, expected)
                    seen.add(len(told))
                    if len(told) > 1 and house.day_chance(day) != 0:
                        several.append(day)
                likely = [day for day, _ in house.days() if day in several]
                self.assertEqual(open_day(house=house, log=log), likely[0] if likely else None)
        self.assertGreaterEqual(seen, {0, 1, 2, 3})

    def test_largest_house(self):
        house = large_house()
        pairs = house.pairs()[::3] + house.pairs()[1::3] + house.pairs()[2::3]
        days = [day for day, _ in house.days()][::7][:89]
        log = [(day, plain_winner(house, pairs, day)) for day in days]
        self.assertEqual(order_from(house, log)[0], "order")
        found = open_day(house, log)
        if found is not None:
            self.assertGreater(len(next_winners(house, log, found)), 1)
        self.assertIn(plain_winner(house, pairs, ("d", "a", "b", None)),
                      next_winners(house, log, ("d", "a", "b", None)))
        self.assertEqual(open_day(house, []), ("a", "a", "a", "a"))

    def test_nothing_open(self):
        house = sure_house()
        log = [(("a", "a"), "w"), (("b", "a"), "w")]
        self.assertIsNone(open_day(house, log))
        self.assertIsNone(open_day(house, [*log, (("a", "a"), "x")]))
        self.assertEqual(open_day(house, log[:1]), ("b", "a"))
        self.assertEqual(next_winners(house, [], (None, None)), [None])
        self.assertEqual(next_winners(house, [], ("a", "a")), ["w", "x", None])


class Counts(Case):
    def test_by_definition(self):
        draw = random.Random(149)
        for house in small_houses(150, 40):
            log = random_log(draw, house)
            told = counts(house=house, log=log)
            self.assertEqual(list(told), house.pairs())
            wish = seen_wish(house=house, log=log)
            self.assertIs(type(wish), Wish)
            self.assertTrue(wish.house == house)
            for pair, found in told.items():
                won = len([1 for item in log if winner_of(house, item) == pair])
                seen = len([1 for day, _ in log if pair in there(house, day)])
                self.assertIs(type(found), tuple)
                self.assertEqual([type(count) for count in found], [int, int])
                self.assertEqual(found, (won, seen))
                self.assertEqual(wish.number(pair), Ratio(won, seen) if seen else 0)


if __name__ == "__main__":
    unittest.main()
