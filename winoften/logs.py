"""Logs: who got the thing on past days, and the orders that fit them (promises 141 to 145)."""

from winoften.errors import InvalidLog, UnknownName
from winoften.forms import is_list, is_list_of, is_tuple_of, is_whole
from winoften.houses import check_house
from winoften.masks import mask_of
from winoften.ratios import Ratio
from winoften.rules import check_order, is_order, sorted_by, winner
from winoften.wishes import Wish

MOST_ITEMS = 100


class Ranking:
    """What a log tells of the orders that fit it: by places, as masks, which pairs stand behind which."""

    def __init__(self, house, log):
        self._pairs = house.pairs()
        self._bits = {pair: 1 << place for place, pair in enumerate(self._pairs)}
        self._behind = [0 for _ in self._pairs]
        self._won = 0
        self._barred = 0
        for there, won in _readings(house, log):
            mask = mask_of(house, there)
            if won is None:
                self._barred = self._barred | mask
            else:
                self._won = self._won | self._bits[won]
                place = self._pairs.index(won)
                self._behind[place] = self._behind[place] | (mask - self._bits[won])
        # Behind these steps, each pair has all pairs behind it that stand behind one that stands behind it.
        for middle in range(len(self._pairs)):
            for place in range(len(self._pairs)):
                if self._behind[place] >> middle & 1:
                    self._behind[place] = self._behind[place] | self._behind[middle]

    def is_fitted(self):
        """Tell whether some order fits the log."""
        rings = [place for place, behind in enumerate(self._behind) if behind >> place & 1]
        return not rings and not self._won & self._barred

    def next_names(self, there):
        """Return who may get the thing if these pairs are there, by the orders that fit the log, if there are any."""
        bits = [self._bits[pair] for pair in there]
        names = [name for (name, _), bit in zip(there, bits) if self._can_win(bits, bit)]
        if self._won & sum(bits):
            return names
        return [*names, None]

    def _can_win(self, bits, bit):
        if self._barred & bit:
            return False
        # It cannot win beside a pair behind which it stands.
        return not any([self._behind[other.bit_length() - 1] & bit for other in bits])


def fits(house, order, log):
    """Tell whether an order fits a log."""
    check_order(house, order)
    _check_log(house, log)
    return _is_fitting(house, order, log)


def order_from(house, log):
    """Return an order that fits a log, or else a ring or two items that show that there is none."""
    _check_log(house, log)
    readings = _readings(house, log)
    first_won = {}
    beaten = {}
    for index, (there, won) in enumerate(readings):
        if won is not None:
            first_won.setdefault(won, index)
            beaten.setdefault(won, []).extend([pair for pair in there if pair != won])
    for index, (there, won) in enumerate(readings):
        barred = [pair for pair in there if won is None and pair in first_won]
        if barred:
            return "nobody", (first_won[barred[0]], index)
    order = sorted_by(beaten, [pair for pair in house.pairs() if pair in beaten])
    if order is None:
        return "ring", _ring(readings)
    return "order", order


def shows_log(house, log, told):
    """Tell whether any value is an order that fits a log, or shows that there is none."""
    _check_log(house, log)
    if not is_tuple_of(told, 2):
        return False
    word, value = told
    if word == "order":
        return is_order(house, value) and _is_fitting(house, value, log)
    readings = _readings(house, log)
    if word == "ring":
        return is_list(value) and len(value) > 0 and _are_indices(value, readings) and _is_ring(value, readings)
    if word != "nobody" or not is_tuple_of(value, 2) or not _are_indices(value, readings):
        return False
    first, second = value
    _, won = readings[first]
    there, got = readings[second]
    return won is not None and got is None and won in there


def next_winners(house, log, day):
    """Return who may get the thing on a further day, by the orders that fit a log."""
    _check_log(house, log)
    there = house.there(day)
    ranking = Ranking(house, log)
    return ranking.next_names(there) if ranking.is_fitted() else []


def open_day(house, log):
    """Return the first day on which several may get the thing, counting nobody as one, or None if there is none."""
    _check_log(house, log)
    ranking = Ranking(house, log)
    if ranking.is_fitted():
        for day, _ in house.days():
            if len(ranking.next_names(house.there(day))) > 1:
                return day
    return None


def counts(house, log):
    """Return, for each pair, on how many days it won, and on how many it was there."""
    _check_log(house, log)
    return counted(house, _readings(house, log))


def counted(house, readings):
    """Return, for each pair, how often it won, and was there, by readings: the pairs there, and the one that won."""
    winners = [won for _, won in readings]
    seen = [pair for there, _ in readings for pair in there]
    return {pair: (winners.count(pair), seen.count(pair)) for pair in house.pairs()}


def seen_wish(house, log):
    """Return the wish whose numbers are the shares of the days on which the pairs won."""
    numbers = {}
    for pair, (won, there) in counts(house, log).items():
        if there > 0:
            numbers[pair] = Ratio(won, there)
    return Wish(house, numbers)


def won_by(there, name):
    """Return the pair with a name among those that are there; None if nobody is named."""
    for pair in there:
        if pair[0] == name:
            return pair
    return None


def _check_log(house, log):
    check_house(house)
    if not is_list_of(log, 0, MOST_ITEMS):
        raise InvalidLog(log)
    for item in log:
        if not is_tuple_of(item, 2):
            raise InvalidLog(item)
        day, name = item
        if name not in [None, *[other for other, _ in house.there(day)]]:
            raise UnknownName(name)


def _readings(house, log):
    """Return, for each item of a log, the pairs that were there, and the one that won, or None."""
    found = []
    for day, name in log:
        there = house.there(day)
        found.append((there, won_by(there, name)))
    return found


def _is_fitting(house, order, log):
    return all([winner(house, order, day) == name for day, name in log])


def _are_indices(value, readings):
    return all([is_whole(index) and 0 <= index < len(readings) for index in value])


def _is_ring(indices, readings):
    """Tell whether on each of these items a pair won beside the one that won on the item before it."""
    _, before = readings[indices[-1]]
    for index in indices:
        there, won = readings[index]
        if won is None or before not in there or before == won:
            return False
        before = won
    return True


def _ring(readings):
    """Return a ring of a log that has one."""
    rest = [index for index, (_, won) in enumerate(readings) if won is not None]
    count = 0
    # Behind these steps, each item that is left can be followed by one that is left, so that a walk comes round.
    while count != len(rest):
        count = len(rest)
        rest = [index for index in rest if _followers(readings, rest, index)]
    walk = [rest[0]]
    index = _followers(readings, rest, rest[0])[0]
    while index not in walk:
        walk.append(index)
        index = _followers(readings, rest, index)[0]
    return walk[walk.index(index):]


def _followers(readings, rest, index):
    """Return the items among the rest on which the pair that won on an item was there and another one won."""
    _, won = readings[index]
    return [other for other in rest if won in readings[other][0] and won != readings[other][1]]
