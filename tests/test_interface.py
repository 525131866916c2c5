"""The interface: each name is defined in its file, with the arguments that the document lists."""

import importlib
import inspect
import unittest

FUNCTIONS = {
    "ratios": ["is_number(value)", "is_amount(value)", "is_share(value)", "as_ratio(number)", "total(numbers)",
               "least(numbers)", "greatest(numbers)"],
    "lots": ["lot_of(house, lot)", "coming(house, lot)", "gain(house, lot, pair)", "several(house, lot, most)",
             "all_lots(house)", "alike(house)"],
    "rules": ["is_order(house, order)", "winner(house, order, day)", "order_rule(house, order)",
              "order_wish(house, order)", "as_order(rule)", "mixture(parts)", "drawn(parts, number)"],
    "flows": ["greatest_flow(masses, limits, links)", "is_flow(masses, limits, links, told)",
              "is_cut(masses, limits, links, told, most)"],
    "possible": ["excess(wish, lot)", "worst_lot(wish)", "answer(wish)", "is_possible(wish)", "is_answer(wish, told)",
                 "top_lots(wish)", "full_lots(wish)", "room(wish, pair)", "binding(wish, pair)", "factor(wish)"],
    "mixtures": ["mixing(wish)", "is_mixing(wish, told)", "corner_order(wish)", "corners(house)",
                 "same_orders(house, one, other)"],
    "best": ["worth_of(wish, worths)", "best(house, worths)", "roof(house, worths)",
             "is_roof(house, worths, told, most)", "lost(wish, worths)", "worths_for(house, order)"],
    "even": ["even(house, *, weights=None)", "even_steps(house, *, weights=None)", "is_even(wish, *, weights=None)",
             "shows_even(wish, steps, *, weights=None)", "even_groups(house, groups)"],
    "bounds": ["between(house, bounds, *, served=())", "shows_between(house, bounds, told, *, served=())",
               "spans(house, bounds, *, served=())"],
    "several": ["several_excess(wish, lot, most)", "several_answer(wish, most)", "is_several_answer(wish, told, most)",
                "several_winners(house, order, day, most)", "several_wish(house, order, most)",
                "several_mixing(wish, most)", "is_several_mixing(wish, told, most)",
                "several_best(house, worths, most)", "several_roof(house, worths, most)", "fewest_things(wish)"],
    "payments": ["fall(wish, values)", "are_fair(wish, values, payments)", "lies(wish, values, payments)",
                 "greatest_payments(wish, values)", "income(house, payments)", "evened(house, values)",
                 "best_income(house, values)"],
    "logs": ["fits(house, order, log)", "order_from(house, log)", "shows_log(house, log, told)",
             "next_winners(house, log, day)", "open_day(house, log)", "counts(house, log)", "seen_wish(house, log)"],
    "less": ["held_down(wish, lot)", "greatest_part(wish)", "shows_part(wish, value)", "best_part(wish, worths)",
             "part_roof(wish, worths)", "is_part_roof(wish, worths, told, most)", "even_part(wish)", "part_steps(wish)",
             "shows_part_steps(wish, part, steps)", "growing(wish)", "part_total(wish, number)"],
    "deals": ["wins(house, days, deal)", "dealt(house, days, order)", "met(house, days, lot)",
              "deal_with(house, days, quotas, *, given=0)", "shows_deal(house, days, quotas, value, *, given=0)",
              "near_deal(house, days, wish)", "is_near(house, days, wish, value)"],
    "chains": ["even_deal(house, days)", "chain(house, days, deal)", "is_chain(house, days, deal, value)"],
    "things": ["served(house, things, lot, day)", "winners_with(house, things, order, day)",
               "things_given(house, things, order, day)", "can_have_with(house, things, lot)",
               "order_wish_with(house, things, order)", "answer_with(wish, things)", "is_answer_with(wish, things, value)",
               "best_with(house, things, worths)", "roof_with(house, things, worths)"],
}
CLASSES = {
    ("ratios", "Ratio"): ["__init__(self, top, bottom=1)", "below(self, number)", "over(self, number)", "text(self)",
                          "read(text)", "__add__(self, other)", "__sub__(self, other)", "__mul__(self, other)",
                          "__neg__(self)", "__eq__(self, other)"],
    ("houses", "House"): ["__init__(self, bidders)", "tied(bidders, days)", "names(self)", "kinds(self, name)",
                          "pairs(self)", "chance(self, pair)", "day_chance(self, day)", "days(self)", "there(self, day)",
                          "__len__(self)", "__eq__(self, other)", "__str__(self)", "read(text)"],
    ("wishes", "Wish"): ["__init__(self, house, numbers)", "number(self, pair)", "numbers(self)",
                         "__eq__(self, other)", "want(self, lot)", "total(self)", "of_bidder(self, name)",
                         "scaled(self, factor)", "mixed(self, other, share)", "with_number(self, pair, number)",
                         "turned(self, one, other)", "within(self, other)", "__str__(self)", "read(house, text)"],
    ("rules", "Rule"): ["__init__(self, house, table)", "share(self, day, name)", "shares(self, day)", "wish(self)",
                        "given(self)", "__eq__(self, other)", "__str__(self)", "read(house, text)"],
    ("desk", "Desk"): ["__init__(self)", "house_now(self)", "wish_now(self)", "log_now(self)", "run(self, command)",
                       "run_all(self, commands)", "trial(self, commands)", "undo(self)", "redo(self)",
                       "history(self)"],
}
PROPERTIES = {("ratios", "Ratio"): ["top", "bottom"], ("houses", "House"): ["independent"]}


def module(name):
    return importlib.import_module("winoften." + name)


class Interface(unittest.TestCase):
    def test_functions(self):
        for file, expected in FUNCTIONS.items():
            for told in expected:
                function = getattr(module(file), told.partition("(")[0])
                self.assertTrue(inspect.isfunction(function))
                self.assertEqual(function.__module__, "winoften." + file)
                self.assertEqual(function.__name__ + str(inspect.signature(function)), told)

    def test_classes(self):
        for (file, name), expected in CLASSES.items():
            found = getattr(module(file), name)
            self.assertTrue(inspect.isclass(found))
            self.assertEqual(found.__module__, "winoften." + file)
            for told in expected:
                method = told.partition("(")[0]
                self.assertIn(method, vars(found))
                self.assertEqual(method + str(inspect.signature(getattr(found, method))), told)

    def test_properties(self):
        for (file, name), expected in PROPERTIES.items():
            for told in expected:
                self.assertIsInstance(vars(getattr(module(file), name))[told], property)

    def test_lots_are_generated(self):
        self.assertTrue(inspect.isgeneratorfunction(module("lots").all_lots))


if __name__ == "__main__":
    unittest.main()
