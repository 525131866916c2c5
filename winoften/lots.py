"""Lots: sets of pairs, and the chances that they come (promises 31 to 35)."""

from winoften.errors import Duplicate, InvalidCount, InvalidLot, TooMany
from winoften.forms import is_list, is_whole
from winoften.houses import check_house, check_pair
from winoften.masks import mask_of, several_of_mask
from winoften.ratios import Ratio

MOST_THINGS = 4
MOST_LISTED_PAIRS = 10


def check_lot(house, lot):
    """Raise what is amiss with a lot of a house."""
    if not is_list(lot):
        raise InvalidLot(lot)
    earlier = []
    for item in lot:
        check_pair(house, item)
        if item in earlier:
            raise Duplicate(item)
        earlier.append(item)


def is_lot(house, value):
    """Tell whether any value is a list of different pairs of a house."""
    if not is_list(value):
        return False
    # With an item twice, or one that is no pair, there are more items than pairs.
    return len(value) == len([pair for pair in house.pairs() if pair in value])


def check_size(house, most):
    """Raise TooMany if a house has more than so many pairs."""
    if len(house) > most:
        raise TooMany(len(house))


def check_count(most):
    """Raise InvalidCount unless a value is an integer from 1 to 4."""
    if not is_whole(most) or not 1 <= most <= MOST_THINGS:
        raise InvalidCount(most)


def lot_of(house, lot):
    """Return a lot in the order of the pairs of its house."""
    check_house(house)
    check_lot(house, lot)
    return [pair for pair in house.pairs() if pair in lot]


def coming(house, lot):
    """Return the chance that at least one pair of a lot is there."""
    return several(house, lot, 1)


def gain(house, lot, pair):
    """Return by how much the coming of a lot grows if a pair is added to it."""
    check_house(house)
    check_lot(house, lot)
    check_pair(house, pair)
    if pair in lot:
        return Ratio(0)
    return coming(house, [*lot, pair]) - coming(house, lot)


def several(house, lot, most):
    """Return the mean number of the pairs of a lot that are there, where more than most count as most."""
    check_house(house)
    check_lot(house, lot)
    check_count(most)
    return several_of_mask(house, mask_of(house, lot), most)


def all_lots(house):
    """Tell all lots, those with fewer pairs first."""
    check_house(house)
    check_size(house, MOST_LISTED_PAIRS)
    pairs = house.pairs()
    for size in range(len(pairs) + 1):
        places = list(range(size))
        while places is not None:
            yield [pairs[place] for place in places]
            places = _next_places(places, len(pairs))


def alike(house):
    """Return the lists of the names of bidders that are alike."""
    check_house(house)
    groups = []
    for name in house.names():
        # To be alike passes on from bidder to bidder, so the first one of a group speaks for all of it.
        fitting = [group for group in groups if _are_alike(house, group[0], name)]
        if fitting:
            fitting[0].append(name)
        else:
            groups.append([name])
    return groups


def _next_places(places, count):
    """Return the ascending places that follow, of as many among count, or None if they are the last ones."""
    size = len(places)
    for at in reversed(range(size)):
        if places[at] < count - size + at:
            start = places[at] + 1
            return [*places[:at], *list(range(start, start + size - at))]
    return None


def _are_alike(house, one, other):
    if house.kinds(one) != house.kinds(other):
        return False
    names = house.names()
    first = names.index(one)
    second = names.index(other)
    return all([chance == house.day_chance(_exchanged(day, first, second)) for day, chance in house.days()])


def _exchanged(day, first, second):
    """Return the day on which two bidders come as each other's kinds."""
    kinds = list(day)
    kinds[first] = day[second]
    kinds[second] = day[first]
    return tuple(kinds)
