"""Possible wishes: rules that fulfil wishes, and lots that show that none does (promises 71 to 76)."""

from winoften.decomposing import tabled
from winoften.forms import is_tuple_of
from winoften.houses import check_pair
from winoften.levels import lowest_level
from winoften.lots import all_lots, check_size, coming, is_lot
from winoften.masks import comings_by_mask, mask_of, sums_by_mask, whole_days
from winoften.pouring import poured
from winoften.ratios import Ratio
from winoften.rules import Rule, rule_with
from winoften.scales import Scale
from winoften.wishes import check_wish, wants_of

MOST_LISTED_PAIRS = 10


def excess(wish, lot):
    """Return what a lot wants less its coming."""
    check_wish(wish)
    return wish.want(lot) - coming(wish.house, lot)


def worst_lot(wish):
    """Return a lot than which no lot has a greater excess."""
    check_wish(wish)
    return poured(wish).worst()


def answer(wish):
    """Return a rule that has the numbers of a wish, or else a lot with an excess above 0."""
    check_wish(wish)
    pouring = poured(wish)
    if not pouring.is_possible():
        return "lot", pouring.worst()
    return "rule", rule_with(wish.house, pouring.table())


def is_possible(wish):
    """Tell whether a wish is possible."""
    check_wish(wish)
    return poured(wish).is_possible()


def is_answer(wish, told):
    """Tell whether any value is an answer to a wish."""
    check_wish(wish)
    if not is_tuple_of(told, 2):
        return False
    word, value = told
    if word == "rule":
        return isinstance(value, Rule) and value.wish() == wish
    return word == "lot" and is_lot(wish.house, value) and Ratio(0).below(excess(wish, value))


def top_lots(wish):
    """Return all top lots of a wish."""
    check_wish(wish)
    lots = [[]]
    for name in wish.house.names():
        parts = _top_parts(wish, name)
        lots = [[*lot, *part] for lot in lots for part in parts]
    return lots


def full_lots(wish):
    """Return all full lots of a possible wish."""
    check_wish(wish)
    house = wish.house
    check_size(house, MOST_LISTED_PAIRS)
    poured(wish).check()
    table, wants, unit = tabled(wish, comings_by_mask(house))
    full = [want == unit * come for want, come in zip(sums_by_mask(wants), table)]
    return [lot for lot in all_lots(house) if full[mask_of(house, lot)]]


def room(wish, pair):
    """Return by how much the number of a pair can grow."""
    _, more = _poured_on(wish, pair)
    return more.over(wish.house.chance(pair))


def binding(wish, pair):
    """Return a lot with a pair because of which the number of the pair cannot grow by more."""
    pouring, _ = _poured_on(wish, pair)
    return pouring.worst()


def factor(wish):
    """Return the greatest amount by which all numbers can be multiplied, or None if they are 0."""
    check_wish(wish)
    days, chances = whole_days(wish.house)
    wants = wants_of(wish)
    scale = Scale(wants)
    units = [(place, 1 << place, scale.whole(want)) for place, want in enumerate(wants) if want != 0]
    if not units:
        return None
    mass, want = lowest_level(days, units)
    return chances.ratio(mass).over(scale.ratio(want))


def _top_parts(wish, name):
    """Return the kinds of a bidder, as pairs, whose numbers are above an amount, for each amount, and all kinds."""
    pairs = [(name, kind) for kind in wish.house.kinds(name)]
    parts = [pairs]
    for bound in [wish.number(pair) for pair in pairs]:
        part = [pair for pair in pairs if bound.below(wish.number(pair))]
        if part not in parts:
            parts.append(part)
    return parts


def _poured_on(wish, pair):
    """Return the days poured into what a wish wants, and how much more can flow to a pair."""
    check_wish(wish)
    check_pair(wish.house, pair)
    pouring = poured(wish)
    pouring.check()
    return pouring, pouring.pour_on(wish.house.pairs().index(pair))
