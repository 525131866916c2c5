"""Wishes: how often each pair is to win (promises 41 to 44)."""

from winoften.errors import InvalidName, InvalidNumber, InvalidText, InvalidWish, WinError
from winoften.houses import check_house, check_pair
from winoften.lots import check_lot
from winoften.ratios import Ratio, as_ratio, is_amount, is_share, total


class Wish:
    """An amount for each pair of a house."""

    def __init__(self, house, numbers):
        check_house(house)
        if not isinstance(numbers, dict):
            raise InvalidWish(numbers)
        for pair, number in numbers.items():
            check_pair(house, pair)
            _check_amount(number)
        self.house = house
        self._numbers = {pair: as_ratio(numbers.get(pair, 0)) for pair in house.pairs()}

    def number(self, pair):
        """Return the number of a pair."""
        check_pair(self.house, pair)
        return self._numbers[pair]

    def numbers(self):
        """Return the dict from all pairs to their numbers."""
        return {pair: number for pair, number in self._numbers.items()}

    def __eq__(self, other):
        if not isinstance(other, Wish):
            return False
        return self.house == other.house and self._numbers == other._numbers

    def want(self, lot):
        """Return what a lot wants."""
        check_lot(self.house, lot)
        return total([self.house.chance(pair) * self._numbers[pair] for pair in lot])

    def total(self):
        """Return what the lot of all pairs wants."""
        return self.want(self.house.pairs())

    def of_bidder(self, name):
        """Return what the lot of all kinds of a bidder wants."""
        return self.want([(name, kind) for kind in self.house.kinds(name)])

    def scaled(self, factor):
        """Return the wish with all numbers multiplied by an amount."""
        _check_amount(factor)
        return Wish(self.house, {pair: number * factor for pair, number in self._numbers.items()})

    def mixed(self, other, share):
        """Return the mixture of this wish, with a share, and another one."""
        check_wish_for(self.house, other)
        if not is_share(share):
            raise InvalidNumber(share)
        rest = Ratio(1) - share
        return Wish(self.house, {pair: self._numbers[pair] * share + other.number(pair) * rest
                                 for pair in self.house.pairs()})

    def with_number(self, pair, number):
        """Return the wish with another number for a pair."""
        check_pair(self.house, pair)
        numbers = self.numbers()
        numbers[pair] = number
        return Wish(self.house, numbers)

    def turned(self, one, other):
        """Return the wish with the numbers of two bidders exchanged."""
        kinds = self.house.kinds(one)
        if self.house.kinds(other) != kinds:
            raise InvalidName(other)
        numbers = self.numbers()
        for kind in kinds:
            numbers[(one, kind)] = self._numbers[(other, kind)]
            numbers[(other, kind)] = self._numbers[(one, kind)]
        return Wish(self.house, numbers)

    def within(self, other):
        """Tell whether no number is greater than that of the same pair in another wish."""
        check_wish_for(self.house, other)
        return not any([other.number(pair).below(number) for pair, number in self._numbers.items()])

    def __str__(self):
        return "; ".join([f"{name} {kind} {number.text()}" for (name, kind), number in self._numbers.items()])

    @classmethod
    def read(cls, house, text):
        """Return the wish for a house with a text."""
        check_house(house)
        if not isinstance(text, str):
            raise InvalidText(text)
        try:
            wish = cls(house, _parsed(text))
        except WinError:
            raise InvalidText(text) from None
        if str(wish) != text:
            raise InvalidText(text)
        return wish


def check_wish(wish):
    """Raise InvalidWish unless a value is a Wish."""
    if not isinstance(wish, Wish):
        raise InvalidWish(wish)


def check_wish_for(house, wish):
    """Raise InvalidWish unless a value is a Wish for an equal house."""
    if not is_wish_for(house, wish):
        raise InvalidWish(wish)


def is_wish_for(house, value):
    """Tell whether any value is a Wish for an equal house."""
    return isinstance(value, Wish) and value.house == house


def wish_wanting(house, wants):
    """Return the wish by which pairs want so much, and all others nothing."""
    return Wish(house, {pair: want.over(house.chance(pair)) for pair, want in wants.items()})


def wants_of(wish):
    """Return what each pair wants, in order."""
    return [wish.house.chance(pair) * number for pair, number in wish.numbers().items()]


def _check_amount(number):
    if not is_amount(number):
        raise InvalidNumber(number)


def _parsed(text):
    """Return the numbers of the pairs of a text."""
    numbers = {}
    for part in text.split("; "):
        pair, _, number = part.rpartition(" ")
        name, _, kind = pair.partition(" ")
        numbers[(name, kind)] = Ratio.read(number)
    return numbers
