"""Even deals, and chains that show that a deal is not even (promise 175)."""

from winoften.deals import check_days, is_deal
from winoften.errors import InvalidDeal
from winoften.forms import is_list, is_tuple_of, is_whole


def even_deal(house, days):
    """Return a full deal that gives the things as evenly as possible."""
    check_days(house, days)
    theres = [house.there(day) for day in days]
    deal = [there[0][0] if there else None for there in theres]
    found = _chain(house, theres, deal)
    while found is not None:
        for index, name in found:
            deal[index] = name
        found = _chain(house, theres, deal)
    return deal


def chain(house, days, deal):
    """Return a chain by which a full deal becomes more even, or None if it is even."""
    check_days(house, days)
    _check_full_deal(house, days, deal)
    return _chain(house, [house.there(day) for day in days], deal)


def is_chain(house, days, deal, value):
    """Tell whether any value is a chain of a full deal."""
    check_days(house, days)
    _check_full_deal(house, days, deal)
    if not is_list(value) or len(value) == 0 or not all([_is_step(house, days, item) for item in value]):
        return False
    indices = [index for index, _ in value]
    names = [name for _, name in value]
    if len(set(indices)) != len(value) or len(set(names)) != len(value):
        return False
    first = deal[indices[0]]
    if first in names or [deal[index] for index in indices[1:]] != names[:-1]:
        return False
    return deal.count(names[-1]) + 2 <= deal.count(first)


def _check_full_deal(house, days, deal):
    if not is_deal(house, days, deal):
        raise InvalidDeal(deal)
    if any([name is None and house.there(day) for day, name in zip(days, deal)]):
        raise InvalidDeal(deal)


def _is_step(house, days, value):
    """Tell whether any value is a tuple of the index of a day and the name of a bidder that is there."""
    if not is_tuple_of(value, 2):
        return False
    index, name = value
    if not is_whole(index) or not 0 <= index < len(days):
        return False
    return name in [other for other, _ in house.there(days[index])]


def _chain(house, theres, deal):
    """Return a chain of a full deal of days on which these pairs are there, or None if there is none."""
    counts = {name: deal.count(name) for name in house.names()}
    for first, count in counts.items():
        for last, way in _ways(theres, deal, first).items():
            if counts[last] + 2 <= count:
                return way
    return None


def _ways(theres, deal, first):
    """Return, for each bidder who can get a thing more if one gives one away, who gets which things instead."""
    ways = {first: []}
    names = [first]
    while names:
        found = []
        for index, holder in enumerate(deal):
            for other, _ in theres[index] if holder in names else []:
                if other not in ways:
                    ways[other] = [*ways[holder], (index, other)]
                    found.append(other)
        names = found
    return ways
