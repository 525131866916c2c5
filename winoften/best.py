"""The best wishes: what possible wishes are worth at most, and roofs that show it (promises 91 to 94)."""

from winoften.errors import InvalidNumber, InvalidWorths
from winoften.forms import is_list, is_tuple_of
from winoften.houses import check_house, check_pair
from winoften.lots import coming, is_lot, lot_of
from winoften.pouring import poured
from winoften.ratios import Ratio, as_ratio, is_number, total
from winoften.rules import check_order, wants_by_order
from winoften.scales import Scale
from winoften.wishes import check_wish


def check_worths(house, worths):
    """Raise what is amiss with worths for the pairs of a house."""
    if not isinstance(worths, dict):
        raise InvalidWorths(worths)
    for pair, worth in worths.items():
        check_pair(house, pair)
        if not is_number(worth):
            raise InvalidNumber(worth)


def falling(house, worths):
    """Return the pairs with worths above 0, those with greater worths first."""
    scale = Scale(list(worths.values()))
    pairs = house.pairs()
    ranks = [(-scale.whole(worths.get(pair, 0)), place) for place, pair in enumerate(pairs)]
    return [pairs[place] for rank, place in sorted(ranks) if rank < 0]


def falling_lots(house, worths):
    """Return lots of the pairs with the greatest worths, growing, and by how much their worths are above the next."""
    order = falling(house, worths)
    found = []
    for place, pair in enumerate(order):
        after = worths[order[place + 1]] if place + 1 < len(order) else 0
        weight = as_ratio(worths[pair]) - after
        if weight != 0:
            found.append((order[:place + 1], weight))
    return found


def worth_of(wish, worths):
    """Return the worth of a wish."""
    check_wish(wish)
    check_worths(wish.house, worths)
    return total([wish.want([pair]) * worth for pair, worth in worths.items()])


def best(house, worths):
    """Return the greatest worth of all possible wishes, and an order whose numbers have it."""
    check_house(house)
    check_worths(house, worths)
    order = falling(house, worths)
    return worth_of_wants(wants_by_order(house, order), worths), order


def worth_of_wants(wants, worths):
    """Return the worth of what pairs with worths want."""
    return total([want * worths[pair] for pair, want in wants.items()])


def roof(house, worths):
    """Return a roof for worths whose bound is the greatest worth."""
    check_house(house)
    check_worths(house, worths)
    return [(lot_of(house, lot), weight) for lot, weight in falling_lots(house, worths)]


def is_roof(house, worths, told, most):
    """Tell whether any value is a roof with a bound of at most a number."""
    check_house(house)
    check_worths(house, worths)
    if not is_number(most):
        raise InvalidNumber(most)
    if not is_list(told) or not all([_is_weighted_lot(house, item) for item in told]):
        return False
    for pair, worth in worths.items():
        if total([weight for lot, weight in told if pair in lot]).below(worth):
            return False
    return not as_ratio(most).below(total([coming(house, lot) * weight for lot, weight in told]))


def lost(wish, worths):
    """Return by how much the worth of a possible wish is below the greatest worth."""
    worth = worth_of(wish, worths)
    poured(wish).check()
    greatest_worth, _ = best(wish.house, worths)
    return greatest_worth - worth


def worths_for(house, order):
    """Return worths by which the numbers of an order are the only possible wish with the greatest worth."""
    check_order(house, order)
    places = {pair: place for place, pair in enumerate(order)}
    return {pair: Ratio(len(order) - places[pair] if pair in places else -1) for pair in house.pairs()}


def _is_weighted_lot(house, value):
    """Tell whether any value is a tuple of a lot that is not empty and a number above 0."""
    if not is_tuple_of(value, 2):
        return False
    lot, weight = value
    return is_lot(house, lot) and len(lot) > 0 and is_number(weight) and Ratio(0).below(weight)
