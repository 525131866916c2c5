"""The commands of a desk: their forms, what they bring, and what they are answered (promises 151 to 154).

A standing of a desk is a tuple of its house and its wish, both None at first, and its log, as a tuple.
"""

from winoften.errors import InvalidLine, NoHouse, TooMany, UnknownName, WinError
from winoften.even import even, even_steps
from winoften.houses import House, day_of, is_name
from winoften.logs import MOST_ITEMS, next_winners
from winoften.lots import check_lot, coming
from winoften.possible import answer, is_possible, room
from winoften.ratios import Ratio
from winoften.rules import order_wish
from winoften.wishes import Wish

ABSENT = "-"


def done(standing, command):
    """Return the standing behind a command, its answer, and whether it is one that changes a desk."""
    word, told = _form(command)
    house, _, _ = standing
    if house is None and (word != "house" or told is None):
        raise NoHouse()
    if told is None and word in TELLING:
        tell = TELLING[word]
        return standing, tell(standing), False
    if word in ASKING:
        ask = ASKING[word]
        return standing, ask(standing, told), False
    change = CHANGING[word]
    return change(standing, told), [], True


def _form(command):
    """Return the word of a command, and what it tells behind it, None if it is the word alone."""
    if not isinstance(command, str) or "\n" in command:
        raise InvalidLine(command)
    word, blank, rest = command.partition(" ")
    if not blank and (word in TELLING or word == "even"):
        return word, None
    told = None
    if blank and word in READING:
        reader = READING[word]
        told = reader(rest)
    if told is None:
        raise InvalidLine(command)
    return word, told


def _read_house(rest):
    try:
        return House.read(rest.replace(" / ", "\n"))
    except WinError:
        return None


def _read_text(rest):
    return rest if rest else None


def _read_pair(rest):
    words = rest.split(" ")
    return tuple(words) if len(words) == 2 and all([is_name(word) for word in words]) else None


def _read_pairs(rest):
    pairs = [_read_pair(part) for part in rest.split(", ")]
    return None if None in pairs else pairs


def _read_setting(rest):
    start, _, last = rest.rpartition(" ")
    pair = _read_pair(start)
    try:
        number = Ratio.read(last)
    except WinError:
        return None
    return None if pair is None or number.below(0) else (pair, number)


def _read_day(rest):
    return day_of(rest) if all([word == ABSENT or is_name(word) for word in rest.split(" ")]) else None


def _read_item(rest):
    start, _, last = rest.rpartition(" ")
    day = _read_day(start)
    if day is None or not (last == ABSENT or is_name(last)):
        return None
    return day, None if last == ABSENT else last


def _bring_house(_, told):
    return told, Wish(told, {}), ()


def _bring_wish(standing, told):
    house, _, log = standing
    return house, Wish.read(house, told), log


def _set_number(standing, told):
    house, wish, log = standing
    pair, number = told
    return house, wish.with_number(pair, number), log


def _bring_order(standing, told):
    house, _, log = standing
    check_lot(house, told)
    return house, order_wish(house, told), log


def _bring_even(standing, _):
    house, _, log = standing
    return house, even(house), log


def _add_day(standing, told):
    house, wish, log = standing
    day, name = told
    names = [other for other, _ in house.there(day)]
    if name is not None and name not in names:
        raise UnknownName(name)
    if len(log) == MOST_ITEMS:
        raise TooMany(len(log) + 1)
    return house, wish, (*log, told)


def _tell_house(standing):
    return str(standing[0]).split("\n")


def _tell_wish(standing):
    return [str(standing[1])]


def _tell_possible(standing):
    word, lot = answer(standing[1])
    return ["yes"] if word == "rule" else ["no", _pairs_text(lot)]


def _tell_steps(standing):
    return [f"{height.text()}: {_pairs_text(lot)}" for height, lot in even_steps(standing[0])]


def _ask_want(standing, pairs):
    return [standing[1].want(pairs).text()]


def _ask_chance(standing, pairs):
    return [coming(standing[0], pairs).text()]


def _ask_room(standing, pair):
    return [room(standing[1], pair).text()]


def _ask_most(standing, pair):
    others = standing[1].with_number(pair, 0)
    return [room(others, pair).text()] if is_possible(others) else ["never"]


def _ask_next(standing, day):
    house, _, log = standing
    return [ABSENT if name is None else name for name in next_winners(house, log, day)]


def _pairs_text(pairs):
    return ", ".join([f"{name} {kind}" for name, kind in pairs])


READING = {
    "house": _read_house, "wish": _read_text, "set": _read_setting, "order": _read_pairs, "day": _read_item,
    "want": _read_pairs, "chance": _read_pairs, "room": _read_pair, "most": _read_pair, "next": _read_day,
}
CHANGING = {
    "house": _bring_house, "wish": _bring_wish, "set": _set_number, "order": _bring_order, "even": _bring_even,
    "day": _add_day,
}
TELLING = {"house": _tell_house, "wish": _tell_wish, "possible": _tell_possible, "steps": _tell_steps}
ASKING = {"want": _ask_want, "chance": _ask_chance, "room": _ask_room, "most": _ask_most, "next": _ask_next}
