"""Houses: bidders, their kinds, and the chances of the days (promises 21 to 25)."""

from winoften.errors import (
    Duplicate,
    InvalidChance,
    InvalidDay,
    InvalidDays,
    InvalidHouse,
    InvalidName,
    InvalidText,
    UnknownName,
    UnknownPair,
    WinError,
)
from winoften.forms import is_list_of, is_tuple_of
from winoften.ratios import Ratio, as_ratio, common_bottom, is_number, total, whole_over

MOST_BIDDERS = 4
MOST_KINDS = 4
MOST_TOLD_DAYS = 60
LONGEST_NAME = 8


class House:
    """A few bidders, each with a few kinds, and the chance of each day."""

    def __init__(self, bidders):
        told = _checked_bidders(bidders, _checked_chances)
        named = [(name, tuple([kind for kind, _ in kinds])) for name, kinds in told]
        options = [_with_absence(kinds) for _, kinds in told]
        days, unit = _product_days(options)
        self._settle(named, options, days, unit, True)

    @classmethod
    def tied(cls, bidders, days):
        """Return the house with told chances of days."""
        named = _checked_bidders(bidders, _checked_kinds)
        chances = _checked_days(named, days)
        options = _observed_options(named, chances)
        unit = common_bottom(list(chances.values()))
        ordered = [(day, chances[day]) for day in _all_days(named) if day in chances]
        days = [(day, chance, whole_over(unit, chance)) for day, chance in ordered]
        # A House can only be had from its constructor, so any house will do to begin with.
        house = cls([("a", [("a", 1)])])
        house._settle(named, options, days, unit, _is_product(options, ordered))
        return house

    def _settle(self, named, options, days, unit, independent):
        self._bidders = tuple(named)
        self._days = tuple([(day, chance) for day, chance, _ in days])
        self._independent = independent
        self._day_chances = {day: chance for day, chance, _ in days}
        self._unit = unit
        bits = _bits(named)
        self._wholes = [(sum([own[kind] for own, kind in zip(bits, day)]), whole) for day, _, whole in days]
        self._pair_chances = {}
        for (name, _), kinds in zip(named, options):
            for kind, chance in kinds:
                if kind is not None:
                    self._pair_chances[(name, kind)] = chance

    def names(self):
        """Return the names of the bidders."""
        return [name for name, _ in self._bidders]

    def kinds(self, name):
        """Return the kinds of a bidder."""
        for bidder, kinds in self._bidders:
            if bidder == name:
                return list(kinds)
        raise UnknownName(name)

    def pairs(self):
        """Return the pairs, in order."""
        return list(self._pair_chances)

    def chance(self, pair):
        """Return the chance of a pair."""
        check_pair(self, pair)
        return self._pair_chances[pair]

    def days(self):
        """Return all days whose chance is above 0, in order, with their chances."""
        return list(self._days)

    def day_chance(self, day):
        """Return the chance of a day."""
        _check_day(self._bidders, day)
        return self._day_chances.get(day, Ratio(0))

    def there(self, day):
        """Return the pairs that are there on a day, in order."""
        _check_day(self._bidders, day)
        return [(name, kind) for name, kind in zip(self.names(), day) if kind is not None]

    def has_pair(self, value):
        """Tell whether any value is a pair."""
        if not is_tuple_of(value, 2):
            return False
        name, kind = value
        return isinstance(name, str) and isinstance(kind, str) and value in self._pair_chances

    def whole_days(self):
        """Return, for each day, the mask of the pairs that are there, and the chance as an integer over the unit."""
        return list(self._wholes)

    def unit(self):
        """Return a bottom over which the chances of all days are integers."""
        return self._unit

    @property
    def independent(self):
        """True if the chance of each day is the product of what its bidders do."""
        return self._independent

    def __len__(self):
        return len(self._pair_chances)

    def __eq__(self, other):
        if not isinstance(other, House):
            return False
        return self._bidders == other._bidders and self._days == other._days

    def __str__(self):
        return "\n".join(_lines(self))

    @classmethod
    def read(cls, text):
        """Return the house with a text."""
        if not isinstance(text, str):
            raise InvalidText(text)
        try:
            bidders, days = _parsed(text)
            house = cls.tied(bidders, days) if days else cls(bidders)
        except WinError:
            raise InvalidText(text) from None
        if str(house) != text:
            raise InvalidText(text)
        return house


def is_name(value):
    """Tell whether any value is a name: one to eight letters from a to z."""
    if not isinstance(value, str) or not 1 <= len(value) <= LONGEST_NAME:
        return False
    return value.isascii() and value.isalpha() and value.islower()


def check_house(house):
    """Raise InvalidHouse unless a value is a House."""
    if not isinstance(house, House):
        raise InvalidHouse(house)


def check_pair(house, pair):
    """Raise UnknownPair unless a value is a pair of a house."""
    if not house.has_pair(pair):
        raise UnknownPair(pair)


def check_likely_day(house, day):
    """Raise InvalidDay unless a value is a day of a house with a chance above 0."""
    if house.day_chance(day) == 0:
        raise InvalidDay(day)


def day_text(day):
    """Return the kinds of a day, - for a bidder that does not come, separated by spaces."""
    return " ".join(["-" if kind is None else kind for kind in day])


def day_of(text):
    """Return the day whose kinds a text has; they may be wrong."""
    return tuple([None if word == "-" else word for word in text.split(" ")])


def _checked_bidders(bidders, checked_kinds):
    """Return the names of the bidders, each with what checked_kinds makes of its kinds."""
    if not is_list_of(bidders, 1, MOST_BIDDERS):
        raise InvalidHouse(bidders)
    told = []
    for item in bidders:
        if not is_tuple_of(item, 2):
            raise InvalidHouse(item)
        name, kinds = item
        _check_name(name, [earlier for earlier, _ in told])
        if not is_list_of(kinds, 1, MOST_KINDS):
            raise InvalidHouse(kinds)
        told.append((name, tuple(checked_kinds(kinds))))
    return told


def _checked_chances(kinds):
    """Return the kinds of a bidder of an independent house with their chances."""
    told = []
    for item in kinds:
        if not is_tuple_of(item, 2):
            raise InvalidHouse(item)
        kind, chance = item
        _check_name(kind, [earlier for earlier, _ in told])
        _check_chance(chance)
        told.append((kind, as_ratio(chance)))
    together = total([chance for _, chance in told])
    if Ratio(1).below(together):
        raise InvalidChance(together)
    return told


def _checked_kinds(kinds):
    """Return the kinds of a bidder of a tied house."""
    told = []
    for kind in kinds:
        _check_name(kind, told)
        told.append(kind)
    return told


def _checked_days(named, days):
    """Return the dict from the told days to their chances."""
    if not is_list_of(days, 1, MOST_TOLD_DAYS):
        raise InvalidDays(days)
    chances = {}
    for item in days:
        if not is_tuple_of(item, 2):
            raise InvalidDays(item)
        day, chance = item
        _check_day(named, day)
        if day in chances:
            raise Duplicate(day)
        _check_chance(chance)
        chances[day] = as_ratio(chance)
    together = total(list(chances.values()))
    if together != 1:
        raise InvalidChance(together)
    for place, (name, kinds) in enumerate(named):
        seen = [day[place] for day in chances]
        for kind in kinds:
            if kind not in seen:
                raise UnknownPair((name, kind))
    return chances


def _check_name(name, earlier):
    if not is_name(name):
        raise InvalidName(name)
    if name in earlier:
        raise Duplicate(name)


def _check_chance(chance):
    if not is_number(chance) or not Ratio(0).below(chance):
        raise InvalidChance(chance)


def _check_day(named, day):
    """Raise InvalidDay unless a value is a day of bidders with names and kinds."""
    if not is_tuple_of(day, len(named)):
        raise InvalidDay(day)
    for kind, (_, kinds) in zip(day, named):
        if kind is not None and kind not in kinds:
            raise InvalidDay(day)


def _with_absence(kinds):
    """Return the kinds of a bidder with their chances, and None with the rest if it may stay away."""
    rest = Ratio(1) - total([chance for _, chance in kinds])
    if rest == 0:
        return list(kinds)
    return [*kinds, (None, rest)]


def _product_days(options):
    """Return the days of an independent house, in order, their chances, these as integers over a unit, and the unit."""
    days = [((), Ratio(1), 1)]
    unit = 1
    for kinds in options:
        bottom = common_bottom([chance for _, chance in kinds])
        told = [(kind, chance, whole_over(bottom, chance)) for kind, chance in kinds]
        days = [((*day, kind), before * chance, count * whole)
                for day, before, count in days for kind, chance, whole in told]
        unit = unit * bottom
    return days, unit


def _bits(named):
    """Return, for each bidder, the dict from its kinds to their bits among those of all pairs, and from None to 0."""
    bits = []
    place = 0
    for _, kinds in named:
        own = {None: 0}
        for kind in kinds:
            own[kind] = 1 << place
            place += 1
        bits.append(own)
    return bits


def _all_days(named):
    """Return all days of bidders with names and kinds, whatever their chances, in order."""
    days = [()]
    for _, kinds in named:
        days = [(*day, kind) for day in days for kind in (*kinds, None)]
    return days


def _observed_options(named, chances):
    """Return, for each bidder, its kinds with their chances, and None with the rest if it may stay away."""
    options = []
    for place, (_, kinds) in enumerate(named):
        summed = [(kind, total([chances[day] for day in chances if day[place] == kind])) for kind in kinds]
        options.append(_with_absence(summed))
    return options


def _is_product(options, days):
    """Tell whether told days have just the chances that they have in an independent house."""
    count = 1
    for kinds in options:
        count = count * len(kinds)
    if count != len(days):
        return False
    # Told days are few, but their products may be many and long: they are made only if they can match.
    products, _ = _product_days(options)
    return days == [(day, chance) for day, chance, _ in products]


def _lines(house):
    """Return the lines of the text of a house."""
    if house.independent:
        return [_bidder_line(name, _kinds_with_chances(house, name)) for name in house.names()]
    bidders = [_bidder_line(name, house.kinds(name)) for name in house.names()]
    days = [_day_line(day, chance) for day, chance in house.days()]
    return [*bidders, *days]


def _bidder_line(name, words):
    told = ", ".join(words)
    return f"{name}: {told}"


def _kinds_with_chances(house, name):
    return [f"{kind} {house.chance((name, kind)).text()}" for kind in house.kinds(name)]


def _day_line(day, chance):
    return f"day {day_text(day)} {chance.text()}"


def _parsed(text):
    """Return the bidders and the told days of a text, with no days if it has the form of an independent house."""
    lines = text.split("\n")
    days = [_parsed_day(line) for line in lines if line.startswith("day ")]
    others = [line for line in lines if not line.startswith("day ")]
    if days:
        return [_parsed_kinds(line) for line in others], days
    return [_parsed_chances(line) for line in others], days


def _parsed_kinds(line):
    name, _, told = line.partition(": ")
    return name, told.split(", ")


def _parsed_chances(line):
    name, kinds = _parsed_kinds(line)
    return name, [_parsed_kind(told) for told in kinds]


def _parsed_kind(told):
    kind, _, chance = told.partition(" ")
    return kind, Ratio.read(chance)


def _parsed_day(line):
    _, _, told = line.partition(" ")
    day, _, chance = told.rpartition(" ")
    return day_of(day), Ratio.read(chance)
