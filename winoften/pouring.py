"""Pouring: the days of a house as sources, its pairs as sinks, and lots that stop the flow (promise 11).

A link leads from each day to each pair that is there. If not all of what pairs want can flow to them, the pairs
that the cut leaves out are a lot that wants more than its coming, and no lot has a greater excess.
"""

from winoften.errors import Impossible
from winoften.masks import lot_from, mask_of, whole_days
from winoften.networks import Network
from winoften.ratios import Ratio
from winoften.scales import Scale
from winoften.wishes import wants_of


def links_to(units, masks):
    """Return the links, without bounds, from days with masks to units of pairs with masks."""
    return [(day, unit, None) for day, there in enumerate(masks) for unit, mask in enumerate(units) if there & mask]


def lot_left_out(network, count):
    """Return the mask of the sinks, of so many, that the cut of a filled network leaves out."""
    _, sinks = network.cut()
    return (1 << count) - 1 - sum([1 << sink for sink in sinks])


def poured(wish, most=1):
    """Return the days of a house, with so many things each, poured into what all pairs want by a wish."""
    pouring = Pouring(wish, most)
    pouring.network.fill(pouring.limits)
    return pouring


class Pouring:
    """The days of a house, with so many things each, and what the pairs want by a wish; at first nothing flows."""

    def __init__(self, wish, most=1):
        self.house = wish.house
        days, whole_chances = whole_days(wish.house)
        wants = wants_of(wish)
        self.scale = Scale([whole_chances.ratio(1), *wants])
        finer = self.scale.whole(whole_chances.ratio(1))
        self.chances = [chance * finer for _, chance in days]
        self.masses = [chance * most for chance in self.chances]
        self.limits = self.scale.wholes(wants)
        units = [1 << place for place in range(len(wants))]
        self.links = links_to(units, [there for there, _ in days])
        if most > 1:
            # A bidder gets one thing at most, so that a link leads no more than the chance of its day.
            self.links = [(day, unit, self.chances[day]) for day, unit, _ in self.links]
        self.network = Network(self.masses, len(wants), self.links)

    def is_possible(self):
        """Tell whether each pair gets what it wants."""
        return self.network.is_sated()

    def check(self):
        """Raise Impossible unless each pair gets what it wants."""
        if not self.network.is_sated():
            raise Impossible(self.worst())

    def table(self):
        """Return the table of a rule by which the pairs get what flows to them."""
        days = [day for day, _ in self.house.days()]
        pairs = self.house.pairs()
        table = {}
        for (place, unit, _), amount in zip(self.links, self.network.amounts()):
            if amount > 0:
                name, _ = pairs[unit]
                table.setdefault(days[place], {})[name] = Ratio(amount, self.chances[place])
        return table

    def wants(self):
        """Return what flows to each pair."""
        return {pair: self.scale.ratio(self.network.into(place)) for place, pair in enumerate(self.house.pairs())}

    def worst(self):
        """Return a lot than which no lot has a greater excess, if all is poured into what the pairs want."""
        return lot_from(self.house, lot_left_out(self.network, len(self.limits)))

    def pour_into(self, lot):
        """Let as much as possible flow to the pairs of a lot, which has all pairs that have got something before."""
        pairs = self.house.pairs()
        self.network.fill([limit if pair in lot else 0 for pair, limit in zip(pairs, self.limits)])

    def core(self, lot):
        """Return the pairs of a lot that has just been poured into which no more can flow to, whatever they want."""
        return lot_from(self.house, lot_left_out(self.network, len(self.limits)) & mask_of(self.house, lot))

    def pour_on(self, place):
        """Let as much as possible flow to the pair at a place, besides what all pairs want."""
        limits = list(self.limits)
        # More than there is on all days: this pair is never sated, so that the cut leaves it out.
        limits[place] = sum(self.masses) + 1
        self.network.fill(limits)
        return self.scale.ratio(self.network.into(place) - self.limits[place])
