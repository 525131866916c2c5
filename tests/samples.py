"""Houses, wishes and orders for the tests, and what the document defines of them, reckoned plainly."""

import itertools
import random
from fractions import Fraction

from tests.checks import half_house, tied_house
from tests.test_houses import fraction, random_bidders, random_tied
from winoften.houses import House
from winoften.ratios import Ratio
from winoften.wishes import Wish


def ratio(number):
    """The Ratio that equals a Fraction or an integer."""
    number = Fraction(number)
    return Ratio(number.numerator, number.denominator)


def document_house():
    """The house of most examples of the document."""
    half = Ratio(1, 2)
    return House([("ann", [("low", half), ("high", half)]), ("bob", [("low", half)])])


def sure_house():
    """A house in which no bidder stays away and one of them has no choice."""
    return House([("w", [("a", Ratio(1, 3)), ("b", Ratio(2, 3))]), ("x", [("a", 1)])])


def lean_houses():
    """Houses that are small, or have a single day, or pairs that are always there together."""
    third = Ratio(1, 3)
    return [
        House([("a", [("a", 1)])]), House([("a", [("a", third)])]), sure_house(),
        House.tied([("x", ["a"]), ("y", ["a"]), ("z", ["a"])], [(("a", "a", "a"), 1)]),
        House.tied([("x", ["a"]), ("y", ["a"])], [(("a", "a"), third), ((None, None), Ratio(2, 3))]),
        House.tied([("x", ["a", "b"]), ("y", ["a"])],
                   [(("a", None), third), (("b", "a"), third), (("b", None), third)]),
    ]


def sparse_house(draw):
    """A tied house with few days, on most of which few bidders come, so that pairs fare unlike."""
    bidders = [(name, ["a", "b"][:draw.randint(1, 2)]) for name in ("v", "w", "x", "y")[:draw.randint(2, 4)]]
    weights = {}
    for place, (_, kinds) in enumerate(bidders):
        for kind in kinds:
            day = [draw.choice([None, None, None, *others]) for _, others in bidders]
            day[place] = kind
            weights[tuple(day)] = draw.randint(1, 6)
    return House.tied(bidders, [(day, Ratio(weight, sum(weights.values()))) for day, weight in weights.items()])


def small_houses(seed, many, most=6):
    """Houses with few pairs, independent and tied ones."""
    draw = random.Random(seed)
    made = [document_house(), half_house(), tied_house(), *lean_houses()]
    while len(made) < many + 9:
        kind = draw.randrange(3)
        if kind == 0:
            house = House(random_bidders(draw))
        else:
            house = House.tied(*random_tied(draw)) if kind == 1 else sparse_house(draw)
        if len(house) <= most:
            made.append(house)
    return made


def ten_house():
    """A house with ten pairs."""
    kinds = [(kind, Ratio(1, 4)) for kind in ("a", "b", "c", "d")]
    return House([("x", kinds), ("y", kinds), ("z", kinds[:2])])


def eleven_house():
    """A house with eleven pairs."""
    kinds = [(kind, Ratio(1, 5)) for kind in ("a", "b", "c", "d")]
    return House([("x", kinds), ("y", kinds), ("z", kinds[:3])])


def long_house(draw):
    """A house with sixteen pairs, 625 days, and long chances that have no bottoms in common."""
    return House([(name, [(kind, long_share(draw, 4)) for kind in "abcd"]) for name in ("w", "x", "y", "z")])


def long_share(draw, parts=1):
    """A long number above 0 that is less than one of so many parts of 1."""
    bottom = draw.randint(10 ** 59, 10 ** 60 - 1)
    return Ratio(draw.randint(1, bottom // parts - 1), bottom)


def there(house, day):
    """The pairs that are there on a day, by the definition."""
    return [(name, kind) for name, kind in zip(house.names(), day) if kind is not None]


def every_lot(house):
    """All lots, in the order of [34]."""
    pairs = house.pairs()
    return [list(lot) for size in range(len(pairs) + 1) for lot in itertools.combinations(pairs, size)]


def plain_coming(house, lot):
    """The coming of a lot as a Fraction, by the definition."""
    return sum([fraction(chance) for day, chance in house.days() if set(there(house, day)) & set(lot)], Fraction(0))


def plain_comings(house):
    """The comings of all lots, by their pairs as a frozenset."""
    return {frozenset(lot): plain_coming(house, lot) for lot in every_lot(house)}


def wants(wish):
    """What the pairs want, as Fractions."""
    return {pair: fraction(wish.house.chance(pair)) * fraction(wish.number(pair)) for pair in wish.house.pairs()}


def plain_want(wish, lot):
    """What a lot wants as a Fraction, by the definition."""
    wanted = wants(wish)
    return sum([wanted[pair] for pair in lot], Fraction(0))


def excesses(wish):
    """The excesses of all lots, by their pairs as a tuple, in the order of [34]."""
    wanted = wants(wish)
    found = {}
    for lot in every_lot(wish.house):
        found[tuple(lot)] = sum([wanted[pair] for pair in lot], Fraction(0)) - plain_coming(wish.house, lot)
    return found


def plain_possible(wish):
    """Whether a wish is possible, by [11]."""
    return max(excesses(wish).values()) <= 0


def order_numbers(house, order):
    """The numbers of an order as Fractions, by the definition."""
    won = {pair: Fraction(0) for pair in house.pairs()}
    for day, chance in house.days():
        winners = [pair for pair in order if pair in there(house, day)]
        if winners:
            won[winners[0]] += fraction(chance)
    return {pair: won[pair] / fraction(house.chance(pair)) for pair in won}


def wish_with(house, numbers):
    """The wish with Fractions as its numbers."""
    return Wish(house, {pair: ratio(number) for pair, number in numbers.items()})


def numbers_of(wish):
    """The numbers of a wish as Fractions, in the order of the pairs."""
    return [fraction(number) for number in wish.numbers().values()]


def random_order(draw, house):
    """Some or all pairs in a random order."""
    return draw.sample(house.pairs(), draw.randint(0, len(house)))


def every_order(house):
    """All orders of a small house."""
    pairs = house.pairs()
    return [list(order) for size in range(len(pairs) + 1) for order in itertools.permutations(pairs, size)]


def random_wish(draw, house):
    """A wish with small numbers, some of them 0; it may be possible or not."""
    bottom = draw.choice([1, 2, 3, 4, 6, 12])
    return Wish(house, {pair: Ratio(draw.randint(0, draw.choice([1, bottom, bottom + 1])), bottom)
                        for pair in house.pairs()})


def possible_wish(draw, house, orders=3):
    """A possible wish: the mixture of a few random orders; with one order it is a corner."""
    weights = [draw.randint(1, 4) for _ in range(orders)]
    mixed = {pair: Fraction(0) for pair in house.pairs()}
    for weight in weights:
        for pair, number in order_numbers(house, random_order(draw, house)).items():
            mixed[pair] += number * weight / sum(weights)
    return wish_with(house, mixed)
