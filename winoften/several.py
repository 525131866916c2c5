"""Several like things on a day: tables, orders, mixtures and roofs for them (promises 121 to 125)."""

from winoften.best import check_worths, falling, roof, worth_of_wants
from winoften.decomposing import mixed_orders
from winoften.forms import is_tuple_of
from winoften.houses import check_house
from winoften.lots import MOST_THINGS, check_count, check_size, is_lot, several
from winoften.masks import severals_by_mask
from winoften.mixtures import MOST_MIXED_PAIRS, mixes_to
from winoften.pouring import poured
from winoften.ratios import Ratio, is_share, total
from winoften.rules import check_order, wants_by_order
from winoften.wishes import check_wish, wants_of, wish_wanting


def several_excess(wish, lot, most):
    """Return what a lot wants less what it can have at most."""
    check_wish(wish)
    return wish.want(lot) - several(wish.house, lot, most)


def several_answer(wish, most):
    """Return a table that has the numbers of a wish, or else a lot with an excess above 0."""
    check_wish(wish)
    check_count(most)
    pouring = poured(wish, most)
    if not pouring.is_possible():
        return "lot", pouring.worst()
    return "table", pouring.table()


def is_several_answer(wish, told, most):
    """Tell whether any value is an answer to a wish for so many things."""
    check_wish(wish)
    check_count(most)
    if not is_tuple_of(told, 2):
        return False
    word, value = told
    if word == "table":
        return _is_table(wish.house, value, most) and _wants_by_table(wish.house, value) == wants_of(wish)
    return word == "lot" and is_lot(wish.house, value) and Ratio(0).below(several_excess(wish, value, most))


def several_winners(house, order, day, most):
    """Return the names of the bidders that get a thing on a day by an order."""
    check_order(house, order)
    there = house.there(day)
    check_count(most)
    return [name for name, kind in order if (name, kind) in there][:most]


def several_wish(house, order, most):
    """Return the wish that has the numbers of an order."""
    check_order(house, order)
    check_count(most)
    return wish_wanting(house, wants_by_order(house, order, most))


def several_mixing(wish, most):
    """Return a mixing of few orders with the numbers of a wish that is possible for so many things."""
    check_wish(wish)
    check_count(most)
    check_size(wish.house, MOST_MIXED_PAIRS)
    poured(wish, most).check()
    return mixed_orders(wish, severals_by_mask(wish.house, most))


def is_several_mixing(wish, told, most):
    """Tell whether any value is a mixing with the numbers of a wish for so many things."""
    check_wish(wish)
    check_count(most)
    return mixes_to(wish, told, lambda order: wants_by_order(wish.house, order, most))


def several_best(house, worths, most):
    """Return the greatest worth of all wishes possible for so many things, and an order whose numbers have it."""
    check_house(house)
    check_worths(house, worths)
    check_count(most)
    order = falling(house, worths)
    return worth_of_wants(wants_by_order(house, order, most), worths), order


def several_roof(house, worths, most):
    """Return a roof for worths whose bound, for so many things, is the greatest worth."""
    # The same lots and weights as for one thing: only what the lots can have differs.
    found = roof(house, worths)
    check_count(most)
    return found


def fewest_things(wish):
    """Return the least count of things for which a wish is possible, or None if there is none."""
    check_wish(wish)
    for most in range(1, MOST_THINGS + 1):
        if poured(wish, most).is_possible():
            return most
    return None


def _is_table(house, value, most):
    """Tell whether any value is a table for so many things."""
    if not isinstance(value, dict):
        return False
    names = {day: [name for name, _ in house.there(day)] for day, _ in house.days()}
    return all([day in names and _are_shares(names[day], shares, most) for day, shares in value.items()])


def _are_shares(names, value, most):
    """Tell whether any value is a dict from some of these names to shares that sum to at most so much."""
    if not isinstance(value, dict):
        return False
    if not all([name in names and is_share(share) for name, share in value.items()]):
        return False
    return not Ratio(most).below(total(list(value.values())))


def _wants_by_table(house, table):
    """Return what each pair wants by a table, in order."""
    won = {pair: [] for pair in house.pairs()}
    for day, shares in table.items():
        chance = house.day_chance(day)
        for name, kind in house.there(day):
            won[(name, kind)].append(chance * shares.get(name, 0))
    return [total(parts) for parts in won.values()]
