"""Masks: lots, and the pairs that are there on a day, as integers with one bit for each pair of the house."""

from winoften.ratios import total
from winoften.scales import Scale


def mask_of(house, lot):
    """Return the mask of a lot."""
    return sum([1 << place for place, pair in enumerate(house.pairs()) if pair in lot])


def lot_from(house, mask):
    """Return the lot with a mask, in the order of the pairs."""
    return [pair for place, pair in enumerate(house.pairs()) if mask >> place & 1]


def masked_days(house):
    """Return, for each day of a house, the mask of the pairs that are there, and the chance."""
    bits = {pair: 1 << place for place, pair in enumerate(house.pairs())}
    names = house.names()
    return [(_mask_of_day(bits, names, day), chance) for day, chance in house.days()]


def coming_of_mask(days, mask):
    """Return the coming of the lot with a mask, from masked days."""
    return total([chance for there, chance in days if there & mask])


def sums_by_mask(values):
    """Return the sums of all selections of some values, by masks."""
    sums = [0]
    for value in values:
        sums = [*sums, *[before + value for before in sums]]
    return sums


def comings_by_mask(house):
    """Return the comings of all lots, by masks, as integers, and their scale."""
    days = masked_days(house)
    scale = Scale([chance for _, chance in days])
    count = 1 << len(house)
    missed = [0 for _ in range(count)]
    for there, chance in days:
        missed[count - 1 - there] += scale.whole(chance)
    # Behind these steps, each mask has the chance of the days on which nothing of it is there.
    for place in range(len(house)):
        for mask in reversed(range(count)):
            if not mask >> place & 1:
                missed[mask] += missed[mask + (1 << place)]
    return [missed[0] - part for part in missed], scale


def _mask_of_day(bits, names, day):
    return sum([bits[(name, kind)] for name, kind in zip(names, day) if kind is not None])
