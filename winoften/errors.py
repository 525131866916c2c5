"""The exceptions of the package (promises 10 and 12); each keeps the very value that it is created with."""


class WinError(ValueError):
    """The base of all exceptions of the package."""


class InvalidNumber(WinError):
    """A value that is not a number of the kind that is asked for."""

    def __init__(self, value):
        self.value = value


class InvalidText(WinError):
    """A value that is not the text of what is to be read."""

    def __init__(self, value):
        self.value = value


class InvalidName(WinError):
    """A value that is not a name, or not one that fits here."""

    def __init__(self, value):
        self.value = value


class InvalidHouse(WinError):
    """A value that is not a house, or not a part of what makes one."""

    def __init__(self, value):
        self.value = value


class InvalidChance(WinError):
    """A value that is not a chance, or chances with a wrong sum."""

    def __init__(self, value):
        self.value = value


class InvalidDay(WinError):
    """A value that is not a day."""

    def __init__(self, value):
        self.value = value


class InvalidDays(WinError):
    """A value that is not a list of days, or not an item of one."""

    def __init__(self, value):
        self.value = value


class InvalidLot(WinError):
    """A value that is not a list of pairs."""

    def __init__(self, value):
        self.value = value


class InvalidCount(WinError):
    """A value that is not a count within its bounds."""

    def __init__(self, value):
        self.value = value


class InvalidWish(WinError):
    """A value that is not a wish, or not one that fits here."""

    def __init__(self, value):
        self.value = value


class InvalidRule(WinError):
    """A value that is not a rule, or not a part of what makes one."""

    def __init__(self, value):
        self.value = value


class InvalidOrder(WinError):
    """A value that is not an order."""

    def __init__(self, value):
        self.value = value


class InvalidFlow(WinError):
    """A value that is not a part of a network."""

    def __init__(self, value):
        self.value = value


class InvalidWorths(WinError):
    """A value that does not give worths, weights, values or payments."""

    def __init__(self, value):
        self.value = value


class InvalidBounds(WinError):
    """A value that does not give bounds."""

    def __init__(self, value):
        self.value = value


class InvalidGroups(WinError):
    """A value that is not a list of groups, or an empty group."""

    def __init__(self, value):
        self.value = value


class InvalidLog(WinError):
    """A value that is not a log, or not an item of one."""

    def __init__(self, value):
        self.value = value


class InvalidLine(WinError):
    """A value that is not a command, or not a list of commands."""

    def __init__(self, value):
        self.value = value


class InvalidDeal(WinError):
    """A value that is not a deal, or not a full one."""

    def __init__(self, value):
        self.value = value


class InvalidQuotas(WinError):
    """A value that does not give quotas."""

    def __init__(self, value):
        self.value = value


class InvalidThings(WinError):
    """A value that does not give things."""

    def __init__(self, value):
        self.value = value


class Duplicate(WinError):
    """A value that stands where an earlier one is the same."""

    def __init__(self, value):
        self.value = value


class UnknownName(WinError):
    """A value that is not the name of a bidder that can be meant."""

    def __init__(self, name):
        self.name = name


class UnknownPair(WinError):
    """A value that is not a pair of the house, or a pair that is never there."""

    def __init__(self, pair):
        self.pair = pair


class Impossible(WinError):
    """A wish that is not possible: the lot wants more than its coming."""

    def __init__(self, lot):
        self.lot = lot


class TooMany(WinError):
    """More of something than can be dealt with."""

    def __init__(self, count):
        self.count = count


class NotIndependent(WinError):
    """A house that is not independent where it has to be."""


class ByZero(WinError):
    """A division by zero."""


class NoHouse(WinError):
    """A desk that has no house yet."""


class NothingToUndo(WinError):
    """No command to take back."""


class NothingToRedo(WinError):
    """No command to do again."""
