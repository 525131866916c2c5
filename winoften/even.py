"""Even wishes: the least height as great as possible, then the second least one, and so on (promises 101 to 104)."""

from winoften.errors import Duplicate, InvalidGroups, InvalidNumber, InvalidWorths
from winoften.forms import is_list, is_list_of, is_tuple_of
from winoften.houses import check_house, check_pair
from winoften.levels import ascending_steps, even_heights
from winoften.lots import check_lot, coming, is_lot
from winoften.masks import mask_of, whole_days
from winoften.networks import Network
from winoften.possible import is_possible
from winoften.pouring import links_to
from winoften.ratios import Ratio, are_ascending, as_ratio, is_number, total
from winoften.scales import Scale
from winoften.wishes import Wish, check_wish, wish_wanting

MOST_GROUPS = 16


def even(house, *, weights=None):
    """Return the even wish of a house."""
    check_house(house)
    told = _checked_weights(house, weights)
    heights = _heights(house, told)
    return Wish(house, {pair: heights[pair] * weight for pair, weight in told.items()})


def even_steps(house, *, weights=None):
    """Return the different heights by the even wish, ascending, each with the lot of the pairs that have it."""
    check_house(house)
    return ascending_steps(_heights(house, _checked_weights(house, weights)))


def is_even(wish, *, weights=None):
    """Tell whether a wish is the even one."""
    check_wish(wish)
    return wish == even(wish.house, weights=weights)


def shows_even(wish, steps, *, weights=None):
    """Tell whether any value is a list of steps that shows that a wish is even."""
    check_wish(wish)
    house = wish.house
    told = _checked_weights(house, weights)
    if not is_list(steps) or not all([_is_step(house, item) for item in steps]):
        return False
    if not are_ascending([height for height, _ in steps]):
        return False
    # No pair has two heights, so that none is counted twice here if all have the height of their lot.
    if sum([len(lot) for _, lot in steps]) != len(house):
        return False
    if any([wish.number(pair) != told[pair] * height for height, lot in steps for pair in lot]):
        return False
    return are_full(wish, [lot for _, lot in steps]) and is_possible(wish)


def even_groups(house, groups):
    """Return the means of groups, as even as possible, and a wish that has them."""
    check_house(house)
    _check_groups(house, groups)
    masks = [mask_of(house, group) for group in groups]
    chances = [total([house.chance(pair) for pair in group]) for group in groups]
    means = even_heights(house, masks, chances)
    wants = [mean * chance for mean, chance in zip(means, chances)]
    return means, _group_wish(house, masks, wants)


def _checked_weights(house, weights):
    """Return the weights of all pairs of a house."""
    if weights is None:
        return {pair: Ratio(1) for pair in house.pairs()}
    if not isinstance(weights, dict):
        raise InvalidWorths(weights)
    for pair, weight in weights.items():
        check_pair(house, pair)
        if not is_number(weight) or not Ratio(0).below(weight):
            raise InvalidNumber(weight)
    return {pair: as_ratio(weights.get(pair, 1)) for pair in house.pairs()}


def _check_groups(house, groups):
    if not is_list_of(groups, 1, MOST_GROUPS):
        raise InvalidGroups(groups)
    earlier = []
    for group in groups:
        check_lot(house, group)
        if len(group) == 0:
            raise InvalidGroups(group)
        for pair in group:
            if pair in earlier:
                raise Duplicate(pair)
        earlier.extend(group)


def _heights(house, weights):
    """Return the heights of all pairs by the even wish."""
    wants = [house.chance(pair) * weight for pair, weight in weights.items()]
    heights = even_heights(house, [1 << place for place in range(len(house))], wants)
    return {pair: height for pair, height in zip(house.pairs(), heights)}


def _group_wish(house, masks, wants):
    """Return a wish by which groups with masks want so much; of a group, the first pair that is there wins."""
    days, chances = whole_days(house)
    scale = Scale([chances.ratio(1), *wants])
    finer = scale.whole(chances.ratio(1))
    links = links_to(masks, [there for there, _ in days])
    network = Network([chance * finer for _, chance in days], len(masks), links)
    network.fill(scale.wholes(wants))
    won = [0 for _ in house.pairs()]
    for (day, index, _), amount in zip(links, network.amounts()):
        there, _ = days[day]
        some = there & masks[index]
        won[(some & -some).bit_length() - 1] += amount
    return wish_wanting(house, {pair: scale.ratio(want) for pair, want in zip(house.pairs(), won)})


def _is_step(house, value):
    """Tell whether any value is a tuple of a number and a lot that is not empty."""
    if not is_tuple_of(value, 2):
        return False
    height, lot = value
    return is_number(height) and is_lot(house, lot) and len(lot) > 0


def are_full(wish, lots):
    """Tell whether the pairs of the first so many lots, for each number of lots, are a full lot together."""
    together = []
    for lot in lots:
        together = [*together, *lot]
        if wish.want(together) != coming(wish.house, together):
            return False
    return True
