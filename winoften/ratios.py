"""Exact quotients of integers, and functions over numbers (promises 13 to 15)."""

from math import gcd, lcm

from winoften.errors import ByZero, InvalidNumber, InvalidText
from winoften.forms import is_list, is_whole

LONGEST_TEXT = 100


class Ratio:
    """The quotient of two integers, in lowest terms."""

    def __init__(self, top, bottom=1):
        if not isinstance(top, int) or top is True or top is False:
            raise InvalidNumber(top)
        if not isinstance(bottom, int) or bottom is True or bottom is False:
            raise InvalidNumber(bottom)
        if bottom == 0:
            raise ByZero()
        common = gcd(top, bottom)
        if bottom < 0:
            common = -common
        if common == 1:
            self._top = top
            self._bottom = bottom
        else:
            self._top = top // common
            self._bottom = bottom // common

    @property
    def top(self):
        """The top in lowest terms; it has the sign of the quotient."""
        return self._top

    @property
    def bottom(self):
        """The bottom in lowest terms; it is above 0."""
        return self._bottom

    def __add__(self, other):
        if isinstance(other, Ratio):
            return Ratio(self._top * other._bottom + other._top * self._bottom, self._bottom * other._bottom)
        if is_whole(other):
            return Ratio(self._top + other * self._bottom, self._bottom)
        return NotImplemented

    def __sub__(self, other):
        if isinstance(other, Ratio):
            return Ratio(self._top * other._bottom - other._top * self._bottom, self._bottom * other._bottom)
        if is_whole(other):
            return Ratio(self._top - other * self._bottom, self._bottom)
        return NotImplemented

    def __mul__(self, other):
        if isinstance(other, Ratio):
            return Ratio(self._top * other._top, self._bottom * other._bottom)
        if is_whole(other):
            return Ratio(self._top * other, self._bottom)
        return NotImplemented

    def __neg__(self):
        return Ratio(-self._top, self._bottom)

    def __eq__(self, other):
        if isinstance(other, Ratio):
            return self._top == other._top and self._bottom == other._bottom
        return is_whole(other) and self._bottom == 1 and self._top == other

    def below(self, number):
        """Tell whether this Ratio is less than a number."""
        if isinstance(number, Ratio):
            return self._top * number._bottom < number._top * self._bottom
        if not is_whole(number):
            raise InvalidNumber(number)
        return self._top < number * self._bottom

    def over(self, number):
        """Return the quotient of this Ratio by a number."""
        right = as_ratio(number)
        return Ratio(self._top * right.bottom, self._bottom * right.top)

    def text(self):
        """Return the text of this Ratio, such as -3/2 or 4."""
        if self._bottom == 1:
            return str(self._top)
        return f"{self._top}/{self._bottom}"

    @classmethod
    def read(cls, text):
        """Return the Ratio with a text."""
        if not isinstance(text, str) or len(text) > LONGEST_TEXT:
            raise InvalidText(text)
        top, slash, bottom = text.partition("/")
        if not slash:
            bottom = "1"
        if not (_is_digits(top.removeprefix("-")) and _is_digits(bottom)) or int(bottom) == 0:
            raise InvalidText(text)
        ratio = cls(int(top), int(bottom))
        if ratio.text() != text:
            raise InvalidText(text)
        return ratio


def is_number(value):
    """Tell whether any value is a number."""
    return isinstance(value, Ratio) or is_whole(value)


def is_amount(value):
    """Tell whether any value is a number that is at least 0."""
    if isinstance(value, Ratio):
        return value._top >= 0
    return isinstance(value, int) and value is not True and value is not False and value >= 0


def is_share(value):
    """Tell whether any value is a number from 0 to 1."""
    if isinstance(value, Ratio):
        return 0 <= value._top <= value._bottom
    return is_whole(value) and 0 <= value <= 1


def as_ratio(number):
    """Return the Ratio that equals a number."""
    if isinstance(number, Ratio):
        return number
    return Ratio(number)


def is_below(one, other):
    """Tell whether a number is less than another one."""
    if isinstance(one, Ratio):
        return one.below(other)
    if isinstance(other, Ratio):
        return one * other._bottom < other._top
    return one < other


def are_ascending(numbers):
    """Tell whether each number of a list is greater than the one before."""
    return all([is_below(low, high) for low, high in zip(numbers, numbers[1:])])


def common_bottom(numbers):
    """Return the least bottom over which all numbers of a list can be written."""
    bottom = 1
    for number in numbers:
        if isinstance(number, Ratio):
            bottom = lcm(bottom, number._bottom)
    return bottom


def whole_over(bottom, number):
    """Return the top of a number that is written over a bottom."""
    if isinstance(number, Ratio):
        return number._top * (bottom // number._bottom)
    return number * bottom


def total(numbers):
    """Return the sum of a list of numbers."""
    if not is_list(numbers):
        raise InvalidNumber(numbers)
    whole = 0
    quotients = []
    for number in numbers:
        if isinstance(number, Ratio):
            quotients.append(number)
        elif isinstance(number, int) and number is not True and number is not False:
            whole += number
        else:
            raise InvalidNumber(numbers)
    if not quotients:
        return Ratio(whole)
    # One common bottom for all is much faster than a sum in lowest terms after each number.
    bottom = common_bottom(quotients)
    return Ratio(whole * bottom + sum([part._top * (bottom // part._bottom) for part in quotients]), bottom)


def least(numbers):
    """Return the index of the first least number of a list."""
    _check_some_numbers(numbers)
    found = 0
    for place in range(1, len(numbers)):
        if is_below(numbers[place], numbers[found]):
            found = place
    return found


def greatest(numbers):
    """Return the index of the first greatest number of a list."""
    _check_some_numbers(numbers)
    return least([-as_ratio(number) for number in numbers])


def _is_digits(text):
    return text.isascii() and text.isdigit()


def _check_numbers(numbers):
    if not is_list(numbers) or not all([is_number(number) for number in numbers]):
        raise InvalidNumber(numbers)


def _check_some_numbers(numbers):
    _check_numbers(numbers)
    if len(numbers) == 0:
        raise InvalidNumber(numbers)
