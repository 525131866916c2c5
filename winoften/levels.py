"""Levels: how high units of pairs can be filled at the same time, each by its weight.

A unit is a tuple of an index, the mask of its pairs, and its weight; a day one of the mask of the pairs that are
there, and its mass. All weights and masses are integers.
"""

from winoften.masks import whole_days
from winoften.networks import Network
from winoften.pouring import links_to, lot_left_out
from winoften.ratios import Ratio
from winoften.scales import Scale


def days_meeting(days, units):
    """Return the days on which a unit is there, and the other days."""
    pairs = 0
    for _, mask, _ in units:
        pairs = pairs | mask
    meeting = [(there, mass) for there, mass in days if there & pairs]
    return meeting, [(there, mass) for there, mass in days if not there & pairs]


def lowest_level(days, units):
    """Return the mass and the weight whose quotient is the greatest height that all units can have."""
    low = units
    some, _ = days_meeting(days, low)
    parts = _split(some, low)
    while parts is not None:
        low, _ = parts
        some, _ = days_meeting(some, low)
        parts = _split(some, low)
    return sum([mass for _, mass in some]), sum([weight for _, _, weight in low])


def even_heights(house, masks, wants):
    """Return the heights, as even as possible, of lots with masks, that are filled by what they want.

    No two of these lots have a common pair, and each one wants more than 0.
    """
    days, chances = whole_days(house)
    scale = Scale(wants)
    units = [(index, mask, scale.whole(want)) for index, (mask, want) in enumerate(zip(masks, wants))]
    some, _ = days_meeting(days, units)
    heights = [Ratio(0) for _ in masks]
    for mass, weight, indices in levels(some, units) if units else []:
        height = chances.ratio(mass).over(scale.ratio(weight))
        for index in indices:
            heights[index] = height
    return heights


def ascending_steps(heights):
    """Return the different heights of pairs, ascending, each with the lot of the pairs that have it."""
    steps = []
    for pair, height in heights.items():
        fitting = [lot for known, lot in steps if known == height]
        if fitting:
            fitting[0].append(pair)
        else:
            steps.append((height, [pair]))
    scale = Scale([height for height, _ in steps])
    ranks = [(scale.whole(height), place) for place, (height, _) in enumerate(steps)]
    return [steps[place] for _, place in sorted(ranks)]


def levels(days, units):
    """Return tuples of mass, weight and indices: as even as possible, these units have the quotient as their height.

    The days are to be some on which a unit is there. The heights ascend, but neighbours may be equal.
    """
    parts = _split(days, units)
    if parts is None:
        return [(sum([mass for _, mass in days]), sum([weight for _, _, weight in units]),
                 [index for index, _, _ in units])]
    low, high = parts
    # The lower units have all of the days on which one of them is there, so the others share the other days.
    some, others = days_meeting(days, low)
    return [*levels(some, low), *levels(others, high)]


def _split(days, units):
    """Return None if the units can share all days by their weights, or else those that get less, and the others."""
    weights = [weight for _, _, weight in units]
    links = links_to([mask for _, mask, _ in units], [there for there, _ in days])
    together = sum(weights)
    network = Network([mass * together for _, mass in days], len(units), links)
    masses = sum([mass for _, mass in days])
    network.fill([weight * masses for weight in weights])
    if network.is_sated():
        return None
    lot = lot_left_out(network, len(units))
    low = [unit for place, unit in enumerate(units) if lot >> place & 1]
    return low, [unit for place, unit in enumerate(units) if not lot >> place & 1]
