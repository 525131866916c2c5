"""Unlike things on a day: who can get one, and how often (promises 181 to 185)."""

from winoften.best import check_worths, falling, roof, worth_of_wants
from winoften.decomposing import mixed_orders, tabled
from winoften.errors import InvalidThings
from winoften.forms import is_tuple_of
from winoften.houses import check_house, is_name
from winoften.lots import MOST_THINGS, check_lot, check_size, is_lot
from winoften.masks import lot_from, sums_by_mask, whole_days
from winoften.mixtures import mixes_to
from winoften.ratios import total
from winoften.rules import check_order
from winoften.wishes import check_wish, wish_wanting

MOST_ANSWERED_PAIRS = 8


class Shelf:
    """The things for a house: which of them, as masks, each pair may get, and who is served with them."""

    def __init__(self, house, things):
        # In the order of the names, since that of the dict has no meaning.
        self._names = sorted(list(things))
        self._pairs = house.pairs()
        self._options = {pair: sum([1 << place for place, name in enumerate(self._names) if pair in things[name]])
                         for pair in self._pairs}
        self._known = {}

    def served(self, pairs):
        """Return those of some pairs that get a thing if they are gone through in this order."""
        options = tuple([self._options[pair] for pair in pairs])
        if options not in self._known:
            self._known[options] = _are_served(options)
        return [pair for pair, is_served in zip(pairs, self._known[options]) if is_served]

    def handed_out(self, pairs):
        """Return which thing each of some pairs gets that can be served together."""
        places = _handed_out([self._options[pair] for pair in pairs], 0)
        return {name: self._names[place] for (name, _), place in zip(pairs, places)}

    def wants(self, house, order):
        """Return the dict from the pairs of an order to the chances that they get a thing by it."""
        days, scale = whole_days(house)
        places = {pair: place for place, pair in enumerate(self._pairs)}
        won = {pair: 0 for pair in order}
        for there, chance in days:
            for pair in self.served([pair for pair in order if there >> places[pair] & 1]):
                won[pair] += chance
        return {pair: scale.ratio(whole) for pair, whole in won.items()}

    def table(self, house):
        """Return what all lots can have, by masks, as integers, and their scale."""
        days, scale = whole_days(house)
        counts = {}
        table = []
        for mask in range(1 << len(self._pairs)):
            for there, _ in days:
                if there & mask not in counts:
                    counts[there & mask] = len(self.served(lot_from(house, there & mask)))
            table.append(sum([chance * counts[there & mask] for there, chance in days]))
        return table, scale


def served(house, things, lot, day):
    """Return the greatest number of pairs of a lot that are there on a day and can be served together."""
    shelf = _shelf(house, things)
    check_lot(house, lot)
    return len(shelf.served([pair for pair in house.there(day) if pair in lot]))


def winners_with(house, things, order, day):
    """Return the bidders that get a thing on a day by an order."""
    return [name for name, _ in _served_by(house, _shelf(house, things), order, day)]


def things_given(house, things, order, day):
    """Return which thing each bidder gets that gets one on a day by an order."""
    shelf = _shelf(house, things)
    return shelf.handed_out(_served_by(house, shelf, order, day))


def can_have_with(house, things, lot):
    """Return the mean of the greatest number of pairs of a lot that can be served together."""
    shelf = _shelf(house, things)
    check_lot(house, lot)
    return _can_have(house, shelf, lot)


def order_wish_with(house, things, order):
    """Return the wish of the numbers of an order."""
    shelf = _shelf(house, things)
    check_order(house, order)
    return wish_wanting(house, shelf.wants(house, order))


def answer_with(wish, things):
    """Return a mixing with the numbers of a wish, or else a lot that wants more than it can have."""
    check_wish(wish)
    shelf = _shelf(wish.house, things)
    check_size(wish.house, MOST_ANSWERED_PAIRS)
    can_have = shelf.table(wish.house)
    table, wants, unit = tabled(wish, can_have)
    excesses = [want - unit * most for want, most in zip(sums_by_mask(wants), table)]
    worst = max(excesses)
    if worst > 0:
        return "lot", lot_from(wish.house, excesses.index(worst))
    return "mixing", mixed_orders(wish, can_have)


def is_answer_with(wish, things, value):
    """Tell whether any value is an answer to a wish with things."""
    check_wish(wish)
    shelf = _shelf(wish.house, things)
    if not is_tuple_of(value, 2):
        return False
    word, shown = value
    if word == "mixing":
        return mixes_to(wish, shown, lambda order: shelf.wants(wish.house, order))
    if word != "lot" or not is_lot(wish.house, shown):
        return False
    return _can_have(wish.house, shelf, shown).below(wish.want(shown))


def best_with(house, things, worths):
    """Return the greatest worth of all wishes possible with things, and an order whose numbers have it."""
    shelf = _shelf(house, things)
    check_worths(house, worths)
    order = falling(house, worths)
    return worth_of_wants(shelf.wants(house, order), worths), order


def roof_with(house, things, worths):
    """Return a roof for worths whose bound, with things, is the greatest worth."""
    _shelf(house, things)
    # The same lots and weights as for one thing: only what the lots can have differs.
    return roof(house, worths)


def _shelf(house, things):
    """Return the shelf of things for a house; raise what is amiss with them."""
    check_house(house)
    if not isinstance(things, dict) or not 1 <= len(things) <= MOST_THINGS:
        raise InvalidThings(things)
    if not all([is_name(name) for name in things]):
        raise InvalidThings(things)
    for lot in things.values():
        check_lot(house, lot)
    return Shelf(house, things)


def _served_by(house, shelf, order, day):
    """Return the pairs that get a thing on a day by an order."""
    check_order(house, order)
    there = house.there(day)
    return shelf.served([pair for pair in order if pair in there])


def _can_have(house, shelf, lot):
    # By any order of all its pairs, as many of a lot are served on each day as can be.
    wants = shelf.wants(house, lot)
    return total(list(wants.values()))


def _are_served(options):
    """Tell, for each of some pairs with options, whether it gets a thing if they are gone through in this order."""
    found = []
    # All masks of the things that the pairs that are served may have got so far.
    used = [0]
    for option in options:
        more = _more_used(used, option)
        found.append(len(more) > 0)
        used = more if more else used
    return found


def _more_used(used, option):
    bits = [1 << place for place in range(MOST_THINGS) if option >> place & 1]
    more = {}
    for mask in used:
        for bit in bits:
            if not mask & bit:
                more[mask + bit] = True
    return list(more)


def _handed_out(options, used):
    """Return the places of unlike things that pairs with options get besides those that are used, or None."""
    if not options:
        return []
    for place in range(MOST_THINGS):
        if options[0] >> place & 1 and not used >> place & 1:
            others = _handed_out(options[1:], used + (1 << place))
            if others is not None:
                return [place, *others]
    return None
