"""Promises 61 to 63: flows."""

import itertools
import random
import unittest
from fractions import Fraction

from tests.checks import Case, any_values
from tests.samples import fraction, long_share, ratio
from winoften.errors import InvalidFlow, InvalidNumber
from winoften.flows import greatest_flow, is_cut, is_flow
from winoften.ratios import Ratio

HALF = Ratio(1, 2)
MASSES, LIMITS = [1, 1], [HALF, 2]
LINKS = [(0, 0, None), (0, 1, Ratio(1, 4)), (1, 1, None)]


def random_network(draw):
    """A small network, some of its masses, limits and bounds 0 or missing, some of its links twice."""
    most = draw.choice([1, 3, 8])
    masses = [ratio(Fraction(draw.randint(0, most), draw.randint(1, 4))) for _ in range(draw.randint(0, 6))]
    limits = [ratio(Fraction(draw.randint(0, most), draw.randint(1, 4))) for _ in range(draw.randint(0, 5))]
    links = []
    if masses and limits:
        for _ in range(draw.randint(0, 14)):
            bound = draw.choice([None, 0, draw.randint(0, most), Ratio(draw.randint(0, 9), 6)])
            links.append((draw.randrange(len(masses)), draw.randrange(len(limits)), bound))
        links += draw.sample(links, min(len(links), draw.randint(0, 2)))
    return masses, limits, links


def bound_of(masses, limits, links, cut):
    """The bound of a cut as a Fraction, by the definition, or None."""
    sources, sinks = cut
    bound = Fraction(0)
    for source, mass in enumerate(masses):
        if source not in sources:
            bound += value(mass)
    for sink in sinks:
        bound += value(limits[sink])
    for source, sink, most in links:
        if source in sources and sink not in sinks:
            if most is None:
                return None
            bound += value(most)
    return bound


def value(number):
    return fraction(number) if isinstance(number, Ratio) else Fraction(number)


def keeps(masses, limits, links, flow):
    """Whether amounts, one for each link, are a flow, by the definition."""
    out_of = [Fraction(0) for _ in masses]
    into = [Fraction(0) for _ in limits]
    for (source, sink, most), amount in zip(links, flow):
        if value(amount) < 0 or (most is not None and value(amount) > value(most)):
            return False
        out_of[source] += value(amount)
        into[sink] += value(amount)
    return (all(led <= value(mass) for led, mass in zip(out_of, masses))
            and all(led <= value(limit) for led, limit in zip(into, limits)))


def every_cut(masses, limits):
    def parts(items):
        return [list(part) for size in range(len(items) + 1) for part in itertools.combinations(range(len(items)), size)]
    return list(itertools.product(parts(masses), parts(limits)))


class Greatest(Case):
    def checked(self, masses, limits, links):
        """The told sum, flow and cut, which are checked by their definitions."""
        told = greatest_flow(masses=masses, limits=limits, links=links)
        self.assertEqual([type(part) for part in told], [Ratio, list, tuple])
        greatest, flow, cut = told
        self.assertEqual({type(amount) for amount in flow} - {Ratio}, set())
        self.assertEqual(len(flow), len(links))
        self.assertTrue(keeps(masses, limits, links, flow))
        self.assertEqual(fraction(greatest), sum([fraction(amount) for amount in flow], Fraction(0)))
        self.assertEqual([type(part) for part in cut], [list, list])
        for part, whole in zip(cut, (masses, limits)):
            self.assertEqual(part, sorted(set(part)))
            self.assertTrue(all(type(index) is int and 0 <= index < len(whole) for index in part))
        self.assertEqual(bound_of(masses, limits, links, cut), fraction(greatest))
        self.assertIs(is_flow(masses, limits, links, flow), True)
        self.assertIs(is_cut(masses, limits, links, cut, greatest), True)
        return told

    def test_document_example(self):
        total, flow, cut = greatest_flow([1, 1], [HALF, 2], [(0, 0, None), (0, 1, Ratio(1, 4)), (1, 1, None)])
        self.assertEqual([total.text(), [amount.text() for amount in flow], cut],
                         ["7/4", ["1/2", "1/4", "1"], ([0], [0])])

    def test_random_networks(self):
        draw = random.Random(61)
        for _ in range(600):
            masses, limits, links = random_network(draw)
            greatest, _, _ = self.checked(masses, limits, links)
            bounds = [bound_of(masses, limits, links, cut) for cut in every_cut(masses, limits)]
            self.assertEqual(fraction(greatest), min(bound for bound in bounds if bound is not None))

    def test_edges(self):
        self.assertEqual(self.checked([], [], [])[0], 0)
        self.assertEqual(self.checked([1], [], [])[0], 0)
        self.assertEqual(self.checked([], [1], [])[0], 0)
        self.assertEqual(self.checked([1], [1], [])[0], 0)
        self.assertEqual(self.checked([0], [1], [(0, 0, None)])[0], 0)
        self.assertEqual(self.checked([1], [0], [(0, 0, None)])[0], 0)
        self.assertEqual(self.checked([1], [1], [(0, 0, 0)])[0], 0)
        self.assertEqual(self.checked([5], [7], [(0, 0, 1), (0, 0, 1), (0, 0, Ratio(1, 3))])[0], Ratio(7, 3))
        self.assertEqual(self.checked([5], [7], [(0, 0, 1), (0, 0, None), (0, 0, None)])[0], 5)

    def test_ways_that_turn_back(self):
        """The first links that fit are wrong for all sources but the last one."""
        for many in (2, 5, 20):
            links = [(at, sink, None) for at in range(many) for sink in (at, at + 1) if sink < many]
            self.assertEqual(self.checked([1] * many, [1] * many, links)[0], many)
            self.assertEqual(self.checked([1] * many, [1] * many, links[::-1])[0], many)
            turned = [(at, (sink + 1) % many, None) for at, sink, _ in links]
            self.assertEqual(self.checked([1] * many, [1] * many, turned)[0], many)

    def test_largest_network(self):
        draw = random.Random(62)
        for bottom in (1, 7, 10 ** 59 + 9):
            masses = [Ratio(draw.randint(0, 5 * bottom), bottom) for _ in range(700)]
            limits = [Ratio(draw.randint(0, 200 * bottom), bottom) for _ in range(20)]
            links = [(draw.randrange(700), draw.randrange(20),
                      draw.choice([None, Ratio(draw.randint(0, 2 * bottom), bottom)])) for _ in range(3000)]
            self.checked(masses, limits, links)

    def test_long_numbers(self):
        draw = random.Random(63)
        masses = [long_share(draw) for _ in range(40)]
        limits = [long_share(draw) * 5 for _ in range(6)]
        links = [(draw.randrange(40), draw.randrange(6), draw.choice([None, long_share(draw)])) for _ in range(120)]
        self.checked(masses, limits, links)

    def test_same_for_equal_arguments(self):
        draw = random.Random(64)
        for _ in range(40):
            masses, limits, links = random_network(draw)
            told = greatest_flow(masses, limits, links)
            self.assertEqual(told, greatest_flow(tuple(masses), tuple(limits), tuple(links)))
            plain = [int(mass.text()) if mass.bottom == 1 else mass for mass in masses]
            self.assertEqual(told, greatest_flow(plain, limits, links))

    def test_arguments_stay_and_results_are_new(self):
        masses, limits, links = list(MASSES), list(LIMITS), list(LINKS)
        _, flow, cut = greatest_flow(masses, limits, links)
        self.assertEqual((masses, limits, links), (MASSES, LIMITS, LINKS))
        flow.clear()
        cut[0].clear()
        cut[1].append(9)
        self.assertEqual(greatest_flow(masses, limits, links)[1:], ([HALF, Ratio(1, 4), 1], ([0], [0])))


class Judging(Case):
    def test_flows(self):
        for told in [[HALF, Ratio(1, 4), 1], [0, 0, 0], (0, Ratio(1, 4), Ratio(3, 4)), [HALF, 0, 1]]:
            self.assertIs(is_flow(masses=MASSES, limits=LIMITS, links=LINKS, told=told), True)
        near = Ratio(10 ** 50 + 1, 2 * 10 ** 50)
        for told in [[near, 0, 0], [0, near, 0], [0, 0, Ratio(10 ** 50 + 1, 10 ** 50)], [HALF, Ratio(1, 4)],
                     [HALF, 0, 1, 0], [], [-1, 0, 0], [Ratio(-1, 10 ** 50), 0, 0], [0, 0, None], [0, 0, True],
                     [0, 0, "0"], {0: 0, 1: 0, 2: 0}, "000", [[0], [0], [0]], ((0, 0, 0),), *any_values()]:
            with self.subTest(told):
                self.assertIs(is_flow(MASSES, LIMITS, LINKS, told), False)
        self.assertIs(is_flow([1], [2], [(0, 0, None)], [2]), False)
        self.assertIs(is_flow([1, 1], [1], [(0, 0, None), (1, 0, None)], [1, Ratio(1, 9)]), False)
        self.assertIs(is_flow([1], [9], [(0, 0, None), (0, 0, None)], [HALF, Ratio(2, 3)]), False)
        self.assertIs(is_flow([], [], [], []), True)
        self.assertIs(is_flow([1], [1], [], ()), True)
        self.assertIs(is_flow([1], [1], [], [0]), False)

    def test_random_flows(self):
        draw = random.Random(65)
        seen = {True: 0, False: 0}
        for _ in range(400):
            masses, limits, links = random_network(draw)
            _, flow, _ = greatest_flow(masses, limits, links)
            if flow:
                at = draw.randrange(len(flow))
                flow[at] = flow[at] + Ratio(draw.choice([-1, 0, 1]), draw.choice([2, 10 ** 40]))
                expected = keeps(masses, limits, links, flow)
                seen[expected] += 1
                self.assertIs(is_flow(masses, limits, links, flow), expected)
        self.assertGreater(min(seen.values()), 30)

    def test_cuts(self):
        most = Ratio(7, 4)
        for told in [([0], [0]), ((0,), (0,)), ([], []), ([0, 1], [1, 0]), ([1], [1])]:
            bound = ratio(bound_of(MASSES, LIMITS, LINKS, told))
            self.assertIs(is_cut(masses=MASSES, limits=LIMITS, links=LINKS, told=told, most=bound), True)
            self.assertIs(is_cut(MASSES, LIMITS, LINKS, told, bound + 1), True)
            self.assertIs(is_cut(MASSES, LIMITS, LINKS, told, bound - Ratio(1, 10 ** 50)), False)
            self.assertIs(is_cut(MASSES, LIMITS, LINKS, told, -1), False)
        for told in [[[0], [0]], ([0], [0], []), ([0],), (), ([0, 0], [0]), ([0], [0, 0]), ([2], [0]), ([0], [2]),
                     ([-1], [0]), ([0], [-1]), ([False], [0]), ([0], [False]), ([Ratio(0)], [0]), (["0"], [0]),
                     ([None], [0]), ({0: 0}, [0]), ("0", [0]), (0, 0), (None, [0]), ([[0]], [0]), *any_values()]:
            if told != ([], []):
                with self.subTest(told):
                    self.assertIs(is_cut(MASSES, LIMITS, LINKS, told, most + 9), False)
        self.assertIs(is_cut(MASSES, LIMITS, LINKS, ([0], []), 100), False)

    def test_all_cuts(self):
        draw = random.Random(66)
        for _ in range(30):
            masses, limits, links = random_network(draw)
            for cut in every_cut(masses, limits):
                bound = bound_of(masses, limits, links, cut)
                turned = (cut[0][::-1], tuple(cut[1][::-1]))
                if bound is None:
                    self.assertIs(is_cut(masses, limits, links, turned, 10 ** 9), False)
                else:
                    self.assertIs(is_cut(masses, limits, links, turned, ratio(bound)), True)
                    self.assertIs(is_cut(masses, limits, links, turned, ratio(bound - Fraction(1, 10 ** 9))), False)


class WrongNetworks(Case):
    def calls(self, masses, limits, links):
        return [(greatest_flow, (masses, limits, links)), (is_flow, (masses, limits, links, [])),
                (is_cut, (masses, limits, links, ([], []), None))]

    def refused_by_all(self, wrong, masses, limits, links):
        for call, args in self.calls(masses, limits, links):
            with self.subTest(call=call, wrong=wrong):
                self.refused(InvalidFlow, wrong, call, *args)

    def test_amounts(self):
        wrongs = [None, True, 0, Ratio(1), "", "1", {}, {0: 1}, [None], [1, -1], [True], [1, Ratio(-1, 9)], ["1"], [[1]],
                  [(1,)]]
        for wrong in [*wrongs, [1] * 701, (0,) * 701]:
            self.refused_by_all(wrong, wrong, None, None)
        for wrong in [*wrongs, [1] * 21, (0,) * 21]:
            self.refused_by_all(wrong, [1], wrong, None)

    def test_links(self):
        fine = (0, 0, None)
        for wrong in [
            None, True, 0, Ratio(1), "", {}, {fine: 1}, fine, [None], [fine, []], [fine, [0, 0, None]], [(0, 0)],
            [(0, 0, None, None)], [(1, 0, None)], [(0, 2, None)], [(-1, 0, None)], [(0, -1, None)], [(0, 0, -1)],
            [(0, 0, Ratio(-1, 9))], [(0, 0, True)], [(0, 0, "1")], [(True, 0, None)], [(False, 0, None)],
            [(0, True, None)], [(0, False, None)], [(Ratio(0), 0, None)], [(0, Ratio(0), None)], [(None, 0, None)],
            [("0", 0, None)], [fine] * 3001, [fine] * 2999 + [(0, 5, None)],
        ]:
            self.refused_by_all(wrong, [1], [1, 1], wrong)
        for wrong in [[(True, 0, None)], [(False, 0, None)], [(0, True, None)], [(0, False, None)], [(0, 0, False)]]:
            self.refused_by_all(wrong, [1, 1], [1, 1], wrong)

    def test_sizes_that_are_allowed(self):
        masses, limits, links = [1] * 700, [1] * 20, [(699, 19, None)] * 3000
        greatest, flow, cut = greatest_flow(masses, limits, links)
        self.assertEqual((greatest, is_flow(masses, limits, links, flow)), (1, True))
        self.assertTrue(is_cut(masses, limits, links, cut, 1))

    def test_wrong_most(self):
        for wrong in [None, True, False, "1", "", [1], (1,), {}]:
            self.refused(InvalidNumber, wrong, is_cut, MASSES, LIMITS, LINKS, None, wrong)


if __name__ == "__main__":
    unittest.main()
