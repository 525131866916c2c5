"""Rules: with which shares the bidders get the thing, and orders of pairs (promises 51 to 55)."""

from winoften.errors import InvalidNumber, InvalidOrder, InvalidRule, InvalidText, UnknownName, WinError
from winoften.forms import is_list_of, is_tuple_of
from winoften.houses import check_house, check_likely_day, day_of, day_text
from winoften.lots import is_lot
from winoften.masks import mask_of, whole_days
from winoften.ratios import Ratio, as_ratio, is_share, total
from winoften.scales import Scale
from winoften.wishes import wish_wanting

MOST_PARTS = 40
NOBODY = "nobody"


class Rule:
    """The share of each bidder that is there, for each day with a chance above 0."""

    def __init__(self, house, table):
        check_house(house)
        if not isinstance(table, dict):
            raise InvalidRule(table)
        for day, shares in table.items():
            check_likely_day(house, day)
            _check_shares(house, day, shares)
        self.house = house
        self._settle({day: _above_zero(shares) for day, shares in table.items()})

    def _settle(self, table):
        # Only what is given away is kept, so that rules that give the same have equal tables.
        self._table = {day: shares for day, shares in table.items() if shares}

    def share(self, day, name):
        """Return the share of a bidder on a day."""
        check_likely_day(self.house, day)
        if name not in self.house.names():
            raise UnknownName(name)
        return self.given_on(day).get(name, Ratio(0))

    def shares(self, day):
        """Return the dict from the names of the bidders that are there to their shares."""
        check_likely_day(self.house, day)
        given = self.given_on(day)
        return {name: given.get(name, Ratio(0)) for name, _ in self.house.there(day)}

    def given_on(self, day):
        """Return the dict from the names of the bidders that get a share above 0 on a day to their shares."""
        return dict(self._table.get(day, {}))

    def wish(self):
        """Return the wish that has the numbers of this rule."""
        won = {pair: [] for pair in self.house.pairs()}
        names = self.house.names()
        for day, chance in self.house.days():
            shares = self.given_on(day)
            for name, kind in zip(names, day):
                if name in shares:
                    won[(name, kind)].append(chance * shares[name])
        return wish_wanting(self.house, {pair: total(parts) for pair, parts in won.items()})

    def given(self):
        """Return the chance that some bidder gets the thing."""
        return total([chance * total(list(self.given_on(day).values())) for day, chance in self.house.days()])

    def __eq__(self, other):
        if not isinstance(other, Rule):
            return False
        return self.house == other.house and self._table == other._table

    def __str__(self):
        return "\n".join([_day_line(self.house.names(), day, self.given_on(day)) for day, _ in self.house.days()])

    @classmethod
    def read(cls, house, text):
        """Return the rule for a house with a text."""
        check_house(house)
        if not isinstance(text, str):
            raise InvalidText(text)
        try:
            rule = cls(house, _parsed(text))
        except WinError:
            raise InvalidText(text) from None
        if str(rule) != text:
            raise InvalidText(text)
        return rule


def check_rule(rule):
    """Raise InvalidRule unless a value is a Rule."""
    if not isinstance(rule, Rule):
        raise InvalidRule(rule)


def is_order(house, order):
    """Tell whether any value is an order."""
    check_house(house)
    return is_lot(house, order)


def check_order(house, order):
    """Raise InvalidHouse or InvalidOrder unless a value is an order of a house."""
    if not is_order(house, order):
        raise InvalidOrder(order)


def winner(house, order, day):
    """Return the name of the bidder that gets the thing by an order, or None."""
    check_order(house, order)
    there = house.there(day)
    first = [name for name, kind in order if (name, kind) in there]
    return first[0] if first else None


def order_rule(house, order):
    """Return the rule of an order."""
    check_order(house, order)
    bits = [(mask_of(house, [pair]), pair[0]) for pair in order]
    sure = Ratio(1)
    table = {}
    for (day, _), (there, _) in zip(house.days(), house.whole_days()):
        names = [name for bit, name in bits if there & bit]
        if names:
            table[day] = {names[0]: sure}
    return rule_with(house, table)


def rule_with(house, table):
    """Return the rule with a table of shares above 0 that is known to be right."""
    rule = Rule(house, {})
    rule._settle(table)
    return rule


def order_wish(house, order):
    """Return the wish that has the numbers of an order."""
    check_order(house, order)
    return wish_wanting(house, wants_by_order(house, order))


def wants_by_order(house, order, most=1):
    """Return the dict from the pairs of an order to the chances that they get one of so many things by it."""
    wants = {}
    days, scale = whole_days(house)
    left = [(there, chance, most) for there, chance in days]
    for pair in order:
        mask = mask_of(house, [pair])
        served = [(there, chance, count - 1) for there, chance, count in left if there & mask]
        wants[pair] = scale.ratio(sum([chance for _, chance, _ in served]))
        others = [item for item in left if not item[0] & mask]
        left = [*others, *[item for item in served if item[2] > 0]]
    return wants


def as_order(rule):
    """Return an order whose rule a rule is, or None if there is none."""
    check_rule(rule)
    before = {}
    for day, _ in rule.house.days():
        there = rule.house.there(day)
        shares = rule.shares(day)
        winners = [(name, kind) for name, kind in there if shares[name] == 1]
        if not winners and any([share != 0 for share in shares.values()]):
            return None
        # None stands for nobody, who comes behind all pairs of the order.
        first = winners[0] if winners else None
        beaten = before.setdefault(first, [])
        beaten.extend([pair for pair in there if pair != first])
    if any([pair in before for pair in before.get(None, [])]):
        return None
    return sorted_by(before, [pair for pair in rule.house.pairs() if pair in before])


def mixture(parts):
    """Return the mixture of some rules with their shares."""
    house = _checked_parts(parts)
    scale = Scale([share for share, _ in parts])
    amounts = {day: {} for day, _ in house.days()}
    for share, rule in parts:
        whole = scale.whole(share)
        for day, shares in rule._table.items():
            on_day = amounts[day]
            for name, part in shares.items():
                # Most shares are 1, and integers are much faster to reckon with.
                amount = whole if part == 1 else part * whole
                on_day.setdefault(name, []).append(amount)
    unit = scale.whole(1)
    return rule_with(house, {day: {name: total(told).over(unit) for name, told in on_day.items()}
                             for day, on_day in amounts.items()})


def drawn(parts, number):
    """Return the index of the rule that is called if a number is drawn."""
    _checked_parts(parts)
    if not is_share(number) or number == 1:
        raise InvalidNumber(number)
    rest = as_ratio(number)
    index = 0
    while not rest.below(parts[index][0]):
        rest = rest - parts[index][0]
        index += 1
    return index


def _check_shares(house, day, shares):
    if not isinstance(shares, dict):
        raise InvalidRule(shares)
    names = [name for name, _ in house.there(day)]
    for name, share in shares.items():
        if name not in names:
            raise UnknownName(name)
        if not is_share(share):
            raise InvalidNumber(share)
    together = total(list(shares.values()))
    if Ratio(1).below(together):
        raise InvalidNumber(together)


def _above_zero(shares):
    return {name: as_ratio(share) for name, share in shares.items() if share != 0}


def _day_line(names, day, shares):
    """Return the line of a day in the text of a rule."""
    told = [f"{name} {shares[name].text()}" for name in names if name in shares]
    who = ", ".join(told) if told else NOBODY
    return f"{day_text(day)}: {who}"


def _parsed(text):
    """Return the table of a text."""
    table = {}
    for line in text.split("\n"):
        day, _, told = line.partition(": ")
        table[day_of(day)] = {} if told == NOBODY else _parsed_shares(told)
    return table


def _parsed_shares(told):
    shares = {}
    for part in told.split(", "):
        name, _, share = part.partition(" ")
        shares[name] = Ratio.read(share)
    return shares


def sorted_by(before, pairs):
    """Return pairs in an order in which each one stands before those that it beats, or None if there is none."""
    order = []
    rest = pairs
    while rest:
        free = [pair for pair in rest if not any([pair in before[other] for other in rest])]
        if not free:
            return None
        order.append(free[0])
        rest = [pair for pair in rest if pair != free[0]]
    return order


def _checked_parts(parts):
    """Return the house of the rules that are to be mixed."""
    if not is_list_of(parts, 1, MOST_PARTS):
        raise InvalidRule(parts)
    houses = []
    for item in parts:
        if not is_tuple_of(item, 2):
            raise InvalidRule(item)
        share, rule = item
        if not is_share(share) or share == 0:
            raise InvalidNumber(share)
        check_rule(rule)
        houses.append(rule.house)
        if rule.house != houses[0]:
            raise InvalidRule(rule)
    together = total([share for share, _ in parts])
    if together != 1:
        raise InvalidNumber(together)
    return houses[0]
