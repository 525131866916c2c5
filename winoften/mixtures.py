"""Mixtures of orders: possible wishes as mixtures of few orders, and corners (promises 81 to 84)."""

from winoften.decomposing import corner_of, mixed_orders, tabled
from winoften.forms import is_list, is_tuple_of
from winoften.houses import check_house
from winoften.lots import check_size
from winoften.masks import comings_by_mask
from winoften.pouring import poured
from winoften.ratios import is_share, total
from winoften.rules import is_order, order_wish, wants_by_order
from winoften.wishes import check_wish, wants_of, wish_wanting

MOST_MIXED_PAIRS = 10
MOST_CORNERED_PAIRS = 5


def mixing(wish):
    """Return a mixing of few orders with the numbers of a possible wish."""
    check_wish(wish)
    check_size(wish.house, MOST_MIXED_PAIRS)
    poured(wish).check()
    return mixed_orders(wish, comings_by_mask(wish.house))


def is_mixing(wish, told):
    """Tell whether any value is a mixing with the numbers of a wish."""
    check_wish(wish)
    return mixes_to(wish, told, lambda order: wants_by_order(wish.house, order))


def mixes_to(wish, told, wants_by):
    """Tell whether any value is a mixing with the numbers of a wish, if the pairs want so much by an order."""
    if not is_list(told) or not all([_is_part(wish.house, item) for item in told]):
        return False
    orders = [list(order) for _, order in told]
    if any([order in orders[:place] for place, order in enumerate(orders)]):
        return False
    if total([share for share, _ in told]) != 1:
        return False
    won = {pair: [] for pair in wish.house.pairs()}
    for share, order in told:
        for pair, want in wants_by(order).items():
            won[pair].append(want * share)
    return wants_of(wish) == [total(parts) for parts in won.values()]


def corner_order(wish):
    """Return an order with the numbers of a wish, or None if it is not a corner."""
    check_wish(wish)
    check_size(wish.house, MOST_MIXED_PAIRS)
    table, wants, unit = tabled(wish, comings_by_mask(wish.house))
    rest = [place for place, want in enumerate(wants) if want > 0]
    order = []
    lot = 0
    while rest:
        # A corner has full lots that grow pair by pair, and each of its full lots is one of such a row.
        fitting = [place for place in rest if wants[place] == unit * (table[lot + (1 << place)] - table[lot])]
        if not fitting:
            return None
        order.append(fitting[0])
        lot += 1 << fitting[0]
        rest = [place for place in rest if place != fitting[0]]
    pairs = wish.house.pairs()
    return [pairs[place] for place in order]


def corners(house):
    """Return the numbers of all orders of a house, each once, as wishes."""
    check_house(house)
    check_size(house, MOST_CORNERED_PAIRS)
    table, scale = comings_by_mask(house)
    count = len(house)
    orders = [[]]
    found = {}
    while orders:
        for order in orders:
            found[tuple(corner_of(table, count, order))] = True
        orders = [[*order, place] for order in orders for place in range(count) if place not in order]
    return [wish_wanting(house, {pair: scale.ratio(want) for pair, want in zip(house.pairs(), wants)})
            for wants in found]


def same_orders(house, one, other):
    """Tell whether two orders have the same numbers."""
    return order_wish(house, one) == order_wish(house, other)


def _is_part(house, value):
    """Tell whether any value is a tuple of a share above 0 and an order."""
    return is_tuple_of(value, 2) and is_share(value[0]) and value[0] != 0 and is_order(house, value[1])
