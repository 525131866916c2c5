"""Parts of wishes: possible wishes within them, the greatest, the best and the even one (promises 161 to 165)."""

from winoften.best import check_worths, falling, falling_lots, worth_of_wants
from winoften.errors import InvalidNumber
from winoften.even import are_full
from winoften.forms import is_list, is_tuple_of
from winoften.levels import ascending_steps, even_heights
from winoften.lots import coming, is_lot, lot_of
from winoften.possible import is_possible
from winoften.pouring import Pouring, poured
from winoften.ratios import Ratio, are_ascending, as_ratio, is_amount, is_number, is_share, total
from winoften.wishes import Wish, check_wish, is_wish_for, wish_wanting


def held_down(wish, lot):
    """Return the coming of a lot and what the other pairs want, together."""
    check_wish(wish)
    return coming(wish.house, lot) + wish.want([pair for pair in wish.house.pairs() if pair not in lot])


def greatest_part(wish):
    """Return a part with the greatest total, and a lot that holds the wish down to this total."""
    check_wish(wish)
    pouring = poured(wish)
    return wish_wanting(wish.house, pouring.wants()), pouring.worst()


def shows_part(wish, value):
    """Tell whether any value is a part and a lot that shows that no part has a greater total."""
    check_wish(wish)
    if not is_tuple_of(value, 2):
        return False
    part, lot = value
    return _is_part(wish, part) and is_lot(wish.house, lot) and part.total() == held_down(wish, lot)


def best_part(wish, worths):
    """Return the greatest worth of all parts, and the part that comes about if the pairs grow by falling worths."""
    check_wish(wish)
    check_worths(wish.house, worths)
    pouring = Pouring(wish)
    order = falling(wish.house, worths)
    for place in range(len(order)):
        pouring.pour_into(order[:place + 1])
    wants = pouring.wants()
    return worth_of_wants({pair: wants[pair] for pair in order}, worths), wish_wanting(wish.house, wants)


def part_roof(wish, worths):
    """Return a part roof for worths whose bound is the greatest worth of all parts."""
    check_wish(wish)
    check_worths(wish.house, worths)
    pouring = Pouring(wish)
    found = []
    for lot, weight in falling_lots(wish.house, worths):
        pouring.pour_into(lot)
        found.append((lot_of(wish.house, lot), pouring.core(lot), weight))
    return found


def is_part_roof(wish, worths, told, most):
    """Tell whether any value is a part roof with a bound of at most a number."""
    check_wish(wish)
    check_worths(wish.house, worths)
    if not is_number(most):
        raise InvalidNumber(most)
    if not is_list(told) or not all([_is_cored_lot(wish.house, item) for item in told]):
        return False
    for pair, worth in worths.items():
        if total([weight for lot, _, weight in told if pair in lot]).below(worth):
            return False
    return not as_ratio(most).below(total([_most_of(wish, lot, core) * weight for lot, core, weight in told]))


def even_part(wish):
    """Return the part that makes the least ratio as great as possible, then the second least one, and so on."""
    check_wish(wish)
    return Wish(wish.house, {pair: wish.number(pair) * ratio for pair, ratio in _ratios(wish).items()})


def part_steps(wish):
    """Return the different ratios by the even part, ascending, each with the lot of the pairs that have it."""
    check_wish(wish)
    return ascending_steps(_ratios(wish))


def shows_part_steps(wish, part, steps):
    """Tell whether any values are a part and steps that show that it is the even one."""
    check_wish(wish)
    if not _is_part(wish, part) or not is_list(steps) or not all([_is_step(wish.house, item) for item in steps]):
        return False
    if not are_ascending([ratio for ratio, _ in steps]):
        return False
    wanting = _wanting(wish)
    told = [pair for _, lot in steps for pair in lot]
    # As many pairs as there should be, and each of these among them: so each is there once.
    if len(told) != len(wanting) or not all([pair in told for pair in wanting]):
        return False
    if any([part.number(pair) != wish.number(pair) * ratio for ratio, lot in steps for pair in lot]):
        return False
    return are_full(part, [lot for ratio, lot in steps if ratio != 1])


def growing(wish):
    """Return from which factors on which lots hold the multiplied wish down."""
    check_wish(wish)
    found = [(Ratio(0), [])]
    together = []
    for height, lot in ascending_steps(_heights(wish)):
        together = [*together, *lot]
        found.append((height, lot_of(wish.house, together)))
    return found


def part_total(wish, number):
    """Return the total of a greatest part of a wish whose numbers are all multiplied by a number."""
    check_wish(wish)
    if not is_amount(number):
        raise InvalidNumber(number)
    return total([wish.want([pair]) * _lesser(height, number) for pair, height in _heights(wish).items()])


def _is_part(wish, value):
    """Tell whether any value is a part of a wish."""
    return is_wish_for(wish.house, value) and value.within(wish) and is_possible(value)


def _is_cored_lot(house, value):
    """Tell whether any value is a tuple of a lot that is not empty, a lot within it, and a number above 0."""
    if not is_tuple_of(value, 3):
        return False
    lot, core, weight = value
    if not is_lot(house, lot) or len(lot) == 0 or not is_lot(house, core):
        return False
    return all([pair in lot for pair in core]) and is_number(weight) and Ratio(0).below(weight)


def _most_of(wish, lot, core):
    """Return the coming of the core of a lot, and what the other pairs of the lot want, together."""
    return coming(wish.house, core) + wish.want([pair for pair in lot if pair not in core])


def _wanting(wish):
    """Return the pairs with numbers above 0."""
    return [pair for pair, number in wish.numbers().items() if number != 0]


def _heights(wish):
    """Return by what the numbers above 0 are multiplied if all of them grow as evenly as possible, without end."""
    wanting = _wanting(wish)
    places = {pair: place for place, pair in enumerate(wish.house.pairs())}
    heights = even_heights(wish.house, [1 << places[pair] for pair in wanting], [wish.want([pair]) for pair in wanting])
    return {pair: height for pair, height in zip(wanting, heights)}


def _ratios(wish):
    """Return the ratios of the pairs with numbers above 0 by the even part."""
    return {pair: _lesser(height, 1) for pair, height in _heights(wish).items()}


def _lesser(height, number):
    return height if height.below(number) else as_ratio(number)


def _is_step(house, value):
    """Tell whether any value is a tuple of a number from 0 to 1 and a lot that is not empty."""
    if not is_tuple_of(value, 2):
        return False
    ratio, lot = value
    return is_share(ratio) and is_lot(house, lot) and len(lot) > 0
