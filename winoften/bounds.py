"""Wishes within bounds, and what shows that there are none (promises 111 to 114)."""

from winoften.errors import InvalidBounds
from winoften.forms import is_tuple_of
from winoften.houses import check_house, check_pair
from winoften.lots import check_lot, is_lot
from winoften.masks import lot_from, mask_of, whole_days
from winoften.networks import Network
from winoften.possible import excess, is_possible
from winoften.pouring import links_to, lot_left_out
from winoften.ratios import as_ratio, is_amount
from winoften.scales import Scale
from winoften.wishes import is_wish_for, wish_wanting

FREE = (0, None)


class Frame:
    """What all pairs are to win at least and at most, and the days on which they can, as integers of one scale."""

    def __init__(self, house, bounds, served):
        told = [(house.chance(pair), bounds.get(pair, FREE)) for pair in house.pairs()]
        lows = [chance * low for chance, (low, _) in told]
        highs = [None if high is None else chance * high for chance, (_, high) in told]
        days, chances = whole_days(house)
        self.serving = mask_of(house, served)
        # On a day on which pairs that are served are there, no other pair can win.
        self.masks = [there & self.serving if there & self.serving else there for there, _ in days]
        self.scale = Scale([chances.ratio(1), *lows, *[high for high in highs if high is not None]])
        finer = self.scale.whole(chances.ratio(1))
        self.masses = [chance * finer for _, chance in days]
        self.lows = self.scale.wholes(lows)
        self.highs = [None if high is None else self.scale.whole(high) for high in highs]

    def is_served(self, place):
        """Tell whether the pair at a place is one that is served."""
        return self.serving >> place & 1 == 1

    def is_crossed(self, place):
        """Tell whether the low of the pair at a place is greater than its high."""
        return self.highs[place] is not None and self.highs[place] < self.lows[place]

    def is_much(self, lot):
        """Tell whether the lot with a mask is to win too much."""
        most = sum([mass for there, mass in zip(self.masks, self.masses) if there & lot])
        return sum([low for place, low in enumerate(self.lows) if lot >> place & 1]) > most

    def is_little(self, lot):
        """Tell whether the lot with a mask may win too little."""
        highs = [high for place, high in enumerate(self.highs) if lot >> place & 1]
        if lot & self.serving != lot or None in highs:
            return False
        return sum(highs) < sum([mass for there, mass in zip(self.masks, self.masses)
                                 if there & self.serving and there & lot == there])

    def high_limit(self, place):
        """Return a limit for what the pair at a place wins that is its high, if it has one."""
        return sum(self.masses) if self.highs[place] is None else self.highs[place]

    def high_limits(self):
        """Return the limits for all pairs, for those that are not served their lows."""
        return [self.high_limit(place) if self.is_served(place) else low for place, low in enumerate(self.lows)]

    def lowest(self):
        """Return the network in which the lows, or as much of them as can, flow to the pairs."""
        units = [1 << place for place in range(len(self.lows))]
        network = Network(self.masses, len(units), links_to(units, self.masks))
        network.fill(self.lows)
        return network

    def unserved(self, network):
        """Return what is left of the days on which a pair is there that is served."""
        return network.left_at([day for day, there in enumerate(self.masks) if there & self.serving])


def between(house, bounds, *, served=()):
    """Return a wish within bounds by which a lot is full, or what shows that there is none."""
    _check_bounds(house, bounds, served)
    frame = Frame(house, bounds, served)
    pairs = house.pairs()
    crossed = [pair for place, pair in enumerate(pairs) if frame.is_crossed(place)]
    if crossed:
        return "pair", crossed[0]
    network = frame.lowest()
    if not network.is_sated():
        return "much", lot_from(house, lot_left_out(network, len(pairs)))
    network.fill(frame.high_limits())
    if frame.unserved(network) > 0:
        _, sinks = network.cut()
        return "little", [pairs[place] for place in sinks if frame.is_served(place)]
    return "wish", wish_wanting(house, {pair: frame.scale.ratio(network.into(place))
                                        for place, pair in enumerate(pairs)})


def shows_between(house, bounds, told, *, served=()):
    """Tell whether any value is a wish within bounds by which a lot is full, or shows that there is none."""
    _check_bounds(house, bounds, served)
    if not is_tuple_of(told, 2):
        return False
    word, value = told
    if word == "wish":
        return is_wish_for(house, value) and _is_within(value, bounds, served)
    frame = Frame(house, bounds, served)
    if word == "pair":
        return value in house.pairs() and frame.is_crossed(house.pairs().index(value))
    if not is_lot(house, value):
        return False
    lot = mask_of(house, value)
    return word == "much" and frame.is_much(lot) or word == "little" and frame.is_little(lot)


def spans(house, bounds, *, served=()):
    """Return the least and the greatest number of each pair by wishes within bounds, or None if there is none."""
    word, _ = between(house, bounds, served=served)
    if word != "wish":
        return None
    frame = Frame(house, bounds, served)
    network = frame.lowest()
    found = {}
    for place, pair in enumerate(house.pairs()):
        chance = house.chance(pair)
        ends = (_least_win(frame, network, place), _greatest_win(frame, network, place))
        found[pair] = tuple([frame.scale.ratio(end).over(chance) for end in ends])
    return found


def _check_bounds(house, bounds, served):
    check_house(house)
    if not isinstance(bounds, dict):
        raise InvalidBounds(bounds)
    for pair, value in bounds.items():
        check_pair(house, pair)
        if not is_tuple_of(value, 2) or not is_amount(value[0]):
            raise InvalidBounds(value)
        if value[1] is not None and not is_amount(value[1]):
            raise InvalidBounds(value)
    check_lot(house, served)


def _is_within(wish, bounds, served):
    """Tell whether a wish lies within bounds, and a lot is full by it."""
    for pair, (low, high) in bounds.items():
        number = wish.number(pair)
        if number.below(low) or high is not None and as_ratio(high).below(number):
            return False
    return is_possible(wish) and excess(wish, served) == 0


def _least_win(frame, network, place):
    """Return the least that the pair at a place wins: its low, and what no other pair can take of served days."""
    limits = frame.high_limits()
    limits[place] = frame.lows[place]
    other = network.twin()
    other.fill(limits)
    return frame.lows[place] + frame.unserved(other)


def _greatest_win(frame, network, place):
    """Return the most that the pair at a place wins if all other pairs have their lows."""
    limits = list(frame.lows)
    limits[place] = frame.high_limit(place)
    other = network.twin()
    other.fill(limits)
    return other.into(place)
