"""Decomposing: a point between corners as a mixture of few of them (promise 11).

The comings of all lots are integers, by masks. A point is a list of integers, what each pair wants, all of them to
be divided by one unit; no lot wants more than its coming. A corner is an order of places: each pair, in turn, wants
by how much the coming of the pairs before it grows with it.
"""

from math import gcd

from winoften.masks import comings_by_mask, sums_by_mask
from winoften.ratios import Ratio
from winoften.scales import Scale
from winoften.wishes import wants_of


def tabled(wish):
    """Return the comings of all lots, what the pairs want, and by what to divide the latter, all in integers."""
    table, scale = comings_by_mask(wish.house)
    wants = [want * scale.whole(1) for want in wants_of(wish)]
    fine = Scale(wants)
    return table, fine.wholes(wants), fine.whole(1)


def corner_of(table, count, order):
    """Return what the pairs want, of so many, by an order of places."""
    wants = [0 for _ in range(count)]
    mask = 0
    for place in order:
        wants[place] = table[mask + (1 << place)] - table[mask]
        mask += 1 << place
    return wants


def decomposed(table, wants, unit):
    """Return tuples of a share and an order of places, at most one more than there are pairs, that mix to a point."""
    parts = []
    rest = Ratio(1)
    while True:
        order = _order_through(table, wants, unit)
        corner = corner_of(table, len(wants), order)
        if wants == [unit * want for want in corner]:
            return [*parts, (rest, order)]
        space, speed = _first_stop(table, wants, unit, corner)
        parts.append((rest * Ratio(space, space + speed), order))
        rest = rest * Ratio(speed, space + speed)
        # The next point lies on the line from the corner through this one, as far behind it as is possible; there a
        # lot more is full, or a number more is 0, and stays so, so that there are not many steps.
        many = (space + speed) // unit
        wants, unit = _lowest([many * want - space * won for want, won in zip(wants, corner)], speed)


def _order_through(table, wants, unit):
    """Return an order of places with numbers above 0 by whose corner each full lot of a point is full."""
    places = [place for place, want in enumerate(wants) if want > 0]
    order = []
    lot = 0
    for mask, want in enumerate(sums_by_mask(wants)):
        # No mask comes before one of its parts, so this is a full lot that is as small as can be beyond the last one.
        if mask & lot == lot and want == unit * table[mask]:
            order.extend([place for place in places if (mask - lot) >> place & 1])
            lot = mask
    return order


def _first_stop(table, wants, unit, corner):
    """Return the space before the first bound on the way from a corner through a point, and the speed towards it."""
    found = (1, 0)
    bounds = list(zip(wants, [unit * won - want for want, won in zip(wants, corner)]))
    for mask, (want, won) in enumerate(zip(sums_by_mask(wants), sums_by_mask(corner))):
        bounds.append((unit * table[mask] - want, want - unit * won))
    for space, speed in bounds:
        # A speed that is not above 0 is never taken.
        if space * found[1] < found[0] * speed:
            found = (space, speed)
    return found


def _lowest(wants, unit):
    common = unit
    for want in wants:
        common = gcd(common, want)
    return [want // common for want in wants], unit // common
