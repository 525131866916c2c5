"""Scales: numbers as integers over one common bottom, which are much faster to reckon with."""

from winoften.ratios import Ratio, common_bottom, whole_over


class Scale:
    """One common bottom for some numbers."""

    def __init__(self, numbers):
        self._common = common_bottom(numbers)

    def whole(self, number):
        """Return a number, one of those of the scale or a sum of such, as an integer."""
        return whole_over(self._common, number)

    def wholes(self, numbers):
        """Return numbers as integers."""
        return [whole_over(self._common, number) for number in numbers]

    def ratio(self, whole):
        """Return the number that an integer stands for."""
        return Ratio(whole, self._common)
