"""Decomposing: a point between corners as a mixture of few of them (promise 11).

The comings of all lots are integers, by masks. A point is a list of integers, what each pair wants, all of them to
be divided by one unit; no lot wants more than its coming. A corner is told by an order of places: each pair, in turn,
wants by how much the coming of the pairs before it grows with it. If several things are given away, what a lot can
have at most stands in the place of its coming.
"""

from math import gcd

from winoften.masks import sums_by_mask
from winoften.ratios import Ratio
from winoften.scales import Scale
from winoften.wishes import wants_of


def tabled(wish, comings):
    """Return the comings of all lots, what the pairs want, and by what to divide the latter, all in integers."""
    table, scale = comings
    wants = [want * scale.whole(1) for want in wants_of(wish)]
    fine = Scale(wants)
    return table, fine.wholes(wants), fine.whole(1)


def mixed_orders(wish, comings):
    """Return tuples of a share and an order, few of them, whose mixture has the numbers of a possible wish."""
    table, wants, unit = tabled(wish, comings)
    pairs = wish.house.pairs()
    return [(share, [pairs[place] for place in order]) for share, order in decomposed(table, wants, unit)]


def corner_of(table, count, order):
    """Return what the pairs want, of so many, by an order of places."""
    wants = [0 for _ in range(count)]
    mask = 0
    for place in order:
        wants[place] = table[mask + (1 << place)] - table[mask]
        mask += 1 << place
    return wants


def decomposed(table, wants, unit):
    """Return tuples of a share and an order of places, at most one more than there are pairs, that mix to a point."""
    parts = []
    rest = Ratio(1)
    while True:
        comes = [unit * come for come in table]
        sums = sums_by_mask(wants)
        order = _order_through(comes, sums, wants)
        corner = corner_of(comes, len(wants), order)
        if wants == corner:
            return [*parts, (rest, order)]
        space, speed = _first_stop(comes, sums, wants, corner)
        together = space + speed
        parts.append((rest * Ratio(space, together), order))
        rest = rest * Ratio(speed, together)
        # The next point lies on the line from the corner through this one, as far behind it as is possible; there a
        # lot more is full, or a number more is 0, and stays so, so that there are not many steps.
        behind = [(together * want - space * won) // unit for want, won in zip(wants, corner)]
        wants, unit = _lowest(behind, speed)


def _order_through(comes, sums, wants):
    """Return an order of places with numbers above 0 by whose corner each full lot of a point is full."""
    places = [place for place, want in enumerate(wants) if want > 0]
    order = []
    lot = 0
    for mask, (come, want) in enumerate(zip(comes, sums)):
        # No mask comes before one of its parts, so this is a full lot that is as small as can be beyond the last one.
        if mask & lot == lot and want == come:
            order.extend([place for place in places if (mask - lot) >> place & 1])
            lot = mask
    return order


def _first_stop(comes, sums, wants, corner):
    """Return the space before the first bound on the way from a corner through a point, and the speed towards it."""
    bounds = [(want, won - want) for want, won in zip(wants, corner)]
    bounds.extend([(come - want, want - won) for come, want, won in zip(comes, sums, sums_by_mask(corner))])
    sized = [(space.bit_length() - speed.bit_length(), space, speed) for space, speed in bounds if speed > 0]
    least_size = min([size for size, _, _ in sized])
    found = (1, 0)
    for size, space, speed in sized:
        # A quotient lies between the powers of 2 with its size - 1 and its size + 1: few need a long comparison.
        if size < least_size + 2 and space * found[1] < found[0] * speed:
            found = (space, speed)
    return found


def _lowest(wants, unit):
    """Return a point in the least integers."""
    common = unit
    for want in wants:
        common = gcd(common, want)
    return [want // common for want in wants], unit // common
