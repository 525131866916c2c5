"""Masks: lots, and the pairs that are there on a day, as integers with one bit for each pair of the house."""

from winoften.ratios import Ratio
from winoften.scales import Scale


def mask_of(house, lot):
    """Return the mask of a lot."""
    return sum([1 << place for place, pair in enumerate(house.pairs()) if pair in lot])


def lot_from(house, mask):
    """Return the lot with a mask, in the order of the pairs."""
    return [pair for place, pair in enumerate(house.pairs()) if mask >> place & 1]


def whole_days(house):
    """Return, for each day, the mask of the pairs that are there and the chance as an integer, and the scale."""
    return house.whole_days(), Scale([Ratio(1, house.unit())])


def several_of_mask(house, mask, most):
    """Return the mean number of the pairs of a lot with a mask that are there, where more than most count as most."""
    days, scale = whole_days(house)
    if most == 1:
        return scale.ratio(sum([chance for there, chance in days if there & mask]))
    return scale.ratio(sum([chance * min(most, _count(there & mask)) for there, chance in days if there & mask]))


def sums_by_mask(values):
    """Return the sums of all selections of some values, by masks."""
    sums = [0]
    for value in values:
        sums = [*sums, *[before + value for before in sums]]
    return sums


def comings_by_mask(house):
    """Return the comings of all lots, by masks, as integers, and their scale."""
    days, scale = whole_days(house)
    count = 1 << len(house)
    missed = [0 for _ in range(count)]
    for there, chance in days:
        missed[count - 1 - there] += chance
    # Behind these steps, each mask has the chance of the days on which nothing of it is there.
    for place in range(len(house)):
        for mask in reversed(range(count)):
            if not mask >> place & 1:
                missed[mask] += missed[mask + (1 << place)]
    return [missed[0] - part for part in missed], scale


def severals_by_mask(house, most):
    """Return what all lots have at most if more than most pairs count as most, by masks, as integers; their scale."""
    if most == 1:
        return comings_by_mask(house)
    days, scale = whole_days(house)
    counts = sums_by_mask([1 for _ in range(len(house))])
    return [sum([chance * min(most, counts[there & mask]) for there, chance in days])
            for mask in range(1 << len(house))], scale


def _count(mask):
    """Return how many pairs the lot with a mask has."""
    return f"{mask:b}".count("1")
