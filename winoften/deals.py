"""Deals: who gets the thing on some days, within quotas, or near a wish (promises 171 to 174)."""

from winoften.circles import circle
from winoften.errors import InvalidCount, InvalidDays, InvalidDeal, InvalidQuotas
from winoften.forms import is_list_of, is_tuple_of, is_whole
from winoften.houses import check_house, check_pair
from winoften.logs import counted, won_by
from winoften.lots import check_lot, is_lot
from winoften.masks import lot_from, mask_of
from winoften.networks import Network
from winoften.pouring import links_to, lot_left_out
from winoften.ratios import total
from winoften.rules import check_order, winner
from winoften.scales import Scale
from winoften.wishes import check_wish_for

MOST_DAYS = 100
FREE = (0, None)


def wins(house, days, deal):
    """Return, for each pair, on how many days it gets the thing by a deal, and on how many it is there."""
    check_days(house, days)
    check_deal(house, days, deal)
    theres = [house.there(day) for day in days]
    return counted(house, [(there, won_by(there, name)) for there, name in zip(theres, deal)])


def dealt(house, days, order):
    """Return the deal by an order."""
    check_days(house, days)
    check_order(house, order)
    return [winner(house, order, day) for day in days]


def met(house, days, lot):
    """Return the number of the days on which at least one pair of a lot is there."""
    check_days(house, days)
    check_lot(house, lot)
    return _met(_masks(house, days), mask_of(house, lot))


def deal_with(house, days, quotas, *, given=0):
    """Return a deal that keeps quotas, in which the thing goes on so many days, or what shows that there is none."""
    _check_quotas(house, days, quotas, given)
    pairs = house.pairs()
    crossed = [pair for pair in pairs if _is_crossed(quotas, pair)]
    if crossed:
        return "pair", crossed[0]
    told = [quotas.get(pair, FREE) for pair in pairs]
    network = _network(_masks(house, days), len(pairs), 1)
    network.fill([low for low, _ in told])
    if not network.is_sated():
        return "much", lot_from(house, lot_left_out(network, len(pairs)))
    # More than all days: a pair without a high is never sated, so that the cut leaves it out.
    network.fill([len(days) + 1 if high is None else high for _, high in told])
    if network.flowing() < given:
        return "little", lot_from(house, lot_left_out(network, len(pairs)))
    return "deal", _deal_of(house, days, network.amounts())


def shows_deal(house, days, quotas, value, *, given=0):
    """Tell whether any value is a deal that keeps quotas, or shows that there is none."""
    _check_quotas(house, days, quotas, given)
    if not is_tuple_of(value, 2):
        return False
    word, shown = value
    if word == "deal":
        return is_deal(house, days, shown) and _keeps(wins(house, days, shown), quotas, given)
    if word == "pair":
        return shown in house.pairs() and _is_crossed(quotas, shown)
    if not is_lot(house, shown):
        return False
    if word == "much":
        return sum([quotas.get(pair, FREE)[0] for pair in shown]) > met(house, days, shown)
    highs = [quotas.get(pair, FREE)[1] for pair in house.pairs() if pair not in shown]
    return word == "little" and None not in highs and met(house, days, shown) + sum(highs) < given


def near_deal(house, days, wish):
    """Return a deal near a wish, or else a lot that is said to win on more days than those on which it is met."""
    check_days(house, days)
    check_wish_for(house, wish)
    says = _says(house, days, wish)
    scale = Scale(says)
    masks = _masks(house, days)
    network = _network(masks, len(says), scale.whole(1))
    network.fill(scale.wholes(says))
    if not network.is_sated():
        return "lot", lot_from(house, lot_left_out(network, len(says)))
    return "deal", _deal_of(house, days, circle(_near_links(house, masks, says)))


def is_near(house, days, wish, value):
    """Tell whether any value is a deal near a wish."""
    check_days(house, days)
    check_wish_for(house, wish)
    if not is_deal(house, days, value):
        return False
    says = _says(house, days, wish)
    won = [count for count, _ in wins(house, days, value).values()]
    groups = _groups(house)
    return all([_is_rounded(sum([won[place] for place in group]), total([says[place] for place in group]))
                for group in groups])


def check_days(house, days):
    """Raise what is amiss with a house and a list of its days."""
    check_house(house)
    if not is_list_of(days, 1, MOST_DAYS):
        raise InvalidDays(days)
    for day in days:
        house.there(day)


def is_deal(house, days, value):
    """Tell whether any value is a deal of days."""
    if not is_list_of(value, len(days), len(days)):
        return False
    return all([name is None or name in [other for other, _ in house.there(day)] for day, name in zip(days, value)])


def check_deal(house, days, deal):
    """Raise InvalidDeal unless a value is a deal of days."""
    if not is_deal(house, days, deal):
        raise InvalidDeal(deal)


def _check_quotas(house, days, quotas, given):
    check_days(house, days)
    if not isinstance(quotas, dict):
        raise InvalidQuotas(quotas)
    for pair, value in quotas.items():
        check_pair(house, pair)
        if not is_tuple_of(value, 2) or not _is_count(value[0]):
            raise InvalidQuotas(value)
        if value[1] is not None and not _is_count(value[1]):
            raise InvalidQuotas(value)
    if not _is_count(given):
        raise InvalidCount(given)


def _is_count(value):
    return is_whole(value) and value >= 0


def _is_crossed(quotas, pair):
    low, high = quotas.get(pair, FREE)
    return high is not None and high < low


def _keeps(won, quotas, given):
    """Tell whether these counts of wins keep quotas, and are so many together."""
    for pair, (low, high) in quotas.items():
        count, _ = won[pair]
        if count < low or high is not None and high < count:
            return False
    return sum([count for count, _ in won.values()]) >= given


def _masks(house, days):
    """Return, for each of some days, the mask of the pairs that are there."""
    return [mask_of(house, house.there(day)) for day in days]


def _met(masks, lot):
    return len([there for there in masks if there & lot])


def _links(masks, count):
    """Return links from days with masks to so many pairs."""
    return links_to([1 << place for place in range(count)], masks)


def _network(masks, count, mass):
    """Return the network from days with masks, each of the same mass, to so many pairs."""
    return Network([mass for _ in masks], count, _links(masks, count))


def _deal_of(house, days, amounts):
    """Return the deal in which the pairs win to which a thing goes from the days."""
    pairs = house.pairs()
    deal = [None for _ in days]
    for (day, place, _), amount in zip(_links(_masks(house, days), len(pairs)), amounts):
        if amount > 0:
            deal[day] = pairs[place][0]
    return deal


def _says(house, days, wish):
    """Return, for each pair, on how many of the days it is to win."""
    theres = [house.there(day) for day in days]
    return [wish.number(pair) * len([there for there in theres if pair in there]) for pair in house.pairs()]


def _groups(house):
    """Return the places of each pair, of the pairs of each bidder, and of all pairs."""
    places = {pair: place for place, pair in enumerate(house.pairs())}
    bidders = [[places[(name, kind)] for kind in house.kinds(name)] for name in house.names()]
    return [*[[place] for place in places.values()], *bidders, list(places.values())]


def _rounded(ratio):
    """Return a Ratio rounded down and rounded up."""
    return ratio.top // ratio.bottom, -(-ratio.top // ratio.bottom)


def _is_rounded(count, ratio):
    low, high = _rounded(ratio)
    return low <= count <= high


def _near_links(house, masks, says):
    """Return links along which things go round: from days to pairs, to bidders, to all, and back to the days."""
    first_pair = len(masks)
    first_bidder = first_pair + len(says)
    everybody = first_bidder + len(house.names())
    start = everybody + 1
    links = [(day, first_pair + place, 0, 1) for day, place, _ in _links(masks, len(says))]
    for bidder, name in enumerate(house.names()):
        at = first_bidder + bidder
        own = [place for place, (other, _) in enumerate(house.pairs()) if other == name]
        links.extend([(first_pair + place, at, *_rounded(says[place])) for place in own])
        links.append((at, everybody, *_rounded(total([says[place] for place in own]))))
    links.extend([(start, day, 0, 1) for day in range(len(masks))])
    return [*links, (everybody, start, *_rounded(total(says)))]
