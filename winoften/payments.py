"""Payments with which nobody gains by posing as another kind, and the greatest income (promises 131 to 135)."""

from winoften.best import best, check_worths
from winoften.errors import InvalidNumber, InvalidWish, InvalidWorths, NotIndependent
from winoften.houses import check_house, check_pair
from winoften.ratios import Ratio, as_ratio, is_amount, total
from winoften.wishes import check_wish


def fall(wish, values):
    """Return the first two neighbours by ascending values whose numbers fall, or None if no numbers do."""
    check_wish(wish)
    _check_values(wish.house, values)
    for ascending in _ascending_pairs(wish.house, values):
        for low, high in zip(ascending, ascending[1:]):
            if wish.number(high).below(wish.number(low)):
                return low, high
    return None


def are_fair(wish, values, payments):
    """Tell whether nobody gains more by posing as another kind, and nobody less than 0 by not posing."""
    if lies(wish, values, payments):
        return False
    return not any([_gain(wish, values, payments, pair, pair).below(0) for pair in wish.house.pairs()])


def lies(wish, values, payments):
    """Return all tuples of a pair and a kind as which the bidder gains more by posing than as its own one."""
    check_wish(wish)
    _check_values(wish.house, values)
    check_worths(wish.house, payments)
    found = []
    for name, own in wish.house.pairs():
        honest = _gain(wish, values, payments, (name, own), (name, own))
        for kind in wish.house.kinds(name):
            if honest.below(_gain(wish, values, payments, (name, own), (name, kind))):
                found.append(((name, own), kind))
    return found


def greatest_payments(wish, values):
    """Return the fair payments than which no fair ones have a greater one for any pair."""
    if fall(wish, values) is not None:
        raise InvalidWish(wish)
    paid = {}
    for ascending in _ascending_pairs(wish.house, values):
        payment = number = Ratio(0)
        for pair in ascending:
            payment = payment + (wish.number(pair) - number) * values.get(pair, 0)
            number = wish.number(pair)
            paid[pair] = payment
    return {pair: paid[pair] for pair in wish.house.pairs()}


def income(house, payments):
    """Return what is paid in the mean on a day."""
    check_house(house)
    check_worths(house, payments)
    return total([house.chance(pair) * payment for pair, payment in payments.items()])


def evened(house, values):
    """Return the evened gains of all pairs."""
    check_house(house)
    _check_values(house, values)
    gains = {}
    for ascending in _ascending_pairs(house, values):
        for pairs, chance, worth in _groups(house, _plain_gains(house, values, ascending)):
            for pair in pairs:
                gains[pair] = worth.over(chance)
    return {pair: gains[pair] for pair in house.pairs()}


def best_income(house, values):
    """Return the greatest income of fair payments for any possible wish, and an order whose numbers have it."""
    return best(house, evened(house, values))


def _check_values(house, values):
    """Raise what is amiss with values for the pairs of a house, or with the house."""
    if not isinstance(values, dict):
        raise InvalidWorths(values)
    for pair, value in values.items():
        check_pair(house, pair)
        if not is_amount(value):
            raise InvalidNumber(value)
    for name in house.names():
        told = [as_ratio(values.get((name, kind), 0)) for kind in house.kinds(name)]
        if any([value in told[:place] for place, value in enumerate(told)]):
            raise InvalidWorths(values)
    if not house.independent:
        raise NotIndependent()


def _ascending_pairs(house, values):
    """Return, for each bidder, its pairs by ascending values."""
    return [_ascending(values, [(name, kind) for kind in house.kinds(name)]) for name in house.names()]


def _ascending(values, pairs):
    found = []
    for pair in pairs:
        value = as_ratio(values.get(pair, 0))
        lower = [other for other in found if as_ratio(values.get(other, 0)).below(value)]
        found = [*lower, pair, *found[len(lower):]]
    return found


def _gain(wish, values, payments, own, told):
    """Return what a bidder gains that comes as one pair and poses as another one."""
    return wish.number(told) * values.get(own, 0) - payments.get(told, 0)


def _plain_gains(house, values, ascending):
    """Return tuples of a pair and its plain gain, for the pairs of a bidder by ascending values."""
    found = []
    for place, pair in enumerate(ascending):
        value = as_ratio(values.get(pair, 0))
        above = ascending[place + 1:]
        if above:
            step = as_ratio(values.get(above[0], 0)) - value
            value = value - (step * total([house.chance(other) for other in above])).over(house.chance(pair))
        found.append((pair, value))
    return found


def _groups(house, gains):
    """Return the groups of neighbours whose means ascend: the pairs, their chance, and their gains times chances."""
    groups = []
    for pair, plain in gains:
        pairs = [pair]
        chance = house.chance(pair)
        worth = plain * chance
        while groups and not _is_below(groups[-1], chance, worth):
            before, chance_before, worth_before = groups.pop()
            pairs = [*before, *pairs]
            chance = chance + chance_before
            worth = worth + worth_before
        groups.append((pairs, chance, worth))
    return groups


def _is_below(group, chance, worth):
    """Tell whether the mean of a group is below that of another one with this chance and worth."""
    _, chance_before, worth_before = group
    return (worth_before * chance).below(worth * chance_before)
