"""What several test files share: values of all kinds, houses, and a check of exceptions."""

import unittest

from winoften import errors
from winoften.houses import House
from winoften.ratios import Ratio

FIELDS = {"UnknownName": "name", "UnknownPair": "pair", "Impossible": "lot", "TooMany": "count"}


def half_house():
    """The house that the document uses for lots."""
    return House([("ann", [("low", Ratio(1, 2)), ("high", Ratio(1, 4))]), ("bob", [("low", Ratio(1, 2))])])


def tied_house():
    """Ann and bob come on different days, as one kind each."""
    return House.tied([("ann", ["a"]), ("bob", ["a"])], [(("a", None), Ratio(1, 2)), ((None, "a"), Ratio(1, 2))])


def large_house():
    """A house with sixteen pairs and 625 days."""
    return House([(name, [(kind, Ratio(1, 5)) for kind in ("a", "b", "c", "d")]) for name in ("w", "x", "y", "z")])


def any_values():
    """Values of all the kinds that may be passed as any value; none of them is a valid day, pair, lot or name."""
    nested = [("ann", [{"low": (Ratio(1, 2), [None])}])]
    return [
        None, True, False, 0, 1, -1, 10 ** 60, Ratio(0), Ratio(1, 2), Ratio(-1, 2), Ratio(1), "", "zed", "ann low",
        "Ann", "a" * 200, "1 / 2", "\n", {}, {"ann": "low"}, {("ann", "low"): 1}, {None: [{}]}, {0: "ann"}, nested,
        tuple(nested), [[]], [None], [0] * 101, (0,) * 101, ({},), ([], []), ("ann", []), ([], "low"), ("ann", "zed"),
        ("low", "ann"), ("zed", "low"), ("ann",), ("ann", "low", "low"), ["ann", "low"], (("ann", "low"),) * 2,
        (True, False), (Ratio(1), Ratio(2)), (half_house(), tied_house()), half_house(), [half_house()], (0, 0, 0, 0),
    ]


class Case(unittest.TestCase):
    """A test case that checks which exception comes, and which very value it keeps."""

    def caught(self, kind, call, *args, **named):
        with self.assertRaises(errors.WinError) as caught:
            call(*args, **named)
        self.assertIs(type(caught.exception), kind)
        return caught.exception

    def refused(self, kind, value, call, *args, **named):
        """The call raises just this kind of exception, with this very value in its field."""
        error = self.caught(kind, call, *args, **named)
        self.assertIs(getattr(error, FIELDS.get(kind.__name__, "value")), value)

    def refused_with_equal(self, kind, value, call, *args, **named):
        """The same for a value that the program makes itself."""
        error = self.caught(kind, call, *args, **named)
        told = getattr(error, FIELDS.get(kind.__name__, "value"))
        self.assertIs(type(told), type(value))
        self.assertEqual(told, value)
