"""Promises 151 to 155: a desk."""

import random
import unittest

from tests.checks import Case, any_values, half_house, large_house, tied_house
from tests.samples import document_house, small_houses, there
from tests.test_houses import all_days
from winoften.desk import Desk
from winoften.errors import (
    Duplicate, Impossible, InvalidDay, InvalidLine, InvalidText, NoHouse, NothingToRedo, NothingToUndo, TooMany,
    UnknownName, UnknownPair, WinError,
)
from winoften.even import even, even_steps
from winoften.houses import House
from winoften.logs import next_winners
from winoften.lots import coming
from winoften.possible import answer, excess, is_possible, room
from winoften.ratios import Ratio
from winoften.rules import order_wish
from winoften.wishes import Wish

HALF = Ratio(1, 2)
LOW, HIGH, BOB = ("ann", "low"), ("ann", "high"), ("bob", "low")
HOUSE = "house ann: low 1/2, high 1/2 / bob: low 1/2"
TIED = "house ann: a / bob: a / day a - 1/2 / day - a 1/2"
CHANGES = [HOUSE, TIED, "wish ann low 1; ann high 0; bob low 1/3", "set ann low 1/4", "order bob low, ann high", "even",
           "day low low bob", "day high - -"]
QUESTIONS = ["house", "wish", "possible", "want ann low", "chance ann low, bob low", "room bob low", "most bob low",
             "steps", "next low low"]
NO_COMMANDS = [
    "", " ", "zed", "House", "house ", "house  ", " house", "wish ", "set", "set ", "set ann", "set ann low",
    "set ann low ", "set  ann low 1", "set ann  low 1", "set ann low  1", "set ann low 1 ", " set ann low 1",
    "set ann low 1 1", "set ann, low 1", "set ann low -1", "set ann low +1", "set ann low 2/4", "set ann low 1/0",
    "set ann low 1.5", "set ann low -0", "set ann low 01", "set ann low one", "set ann - 1", "set - low 1",
    "set Ann low 1", "set ann toolongkind 1", "set ann low 1\n", "set ann\nlow 1", "set ann low " + "1" * 101,
    "set ann low -1/2", "set ann low1", "order", "order ", "order ann", "order ann low,", "order ann low, ",
    "order ann low,bob low", "order ann low ,bob low", "order ann low , bob low", "order ann low,  bob low",
    "order ann low bob low", "order ann low; bob low", "order  ann low", "order ann low ", "order -", "order ann -",
    "order ann low, , bob low", "Order ann low", "order ann low, bob", "order ann low,\nbob low", "order , ann low",
    "want", "want ", "want ann", "want ann low,", "want  ann low", "chance", "chance ", "chance bob low ", "room",
    "room ann", "room ann low, bob low", "room ann low 1", "room  ann low", "room ann low ", "most", "most ",
    "most ann", "most ann low bob", "most ann low, bob low", "even ", "even ann", " even", "even\n", "evens",
    "possible ", "possible ann", "possible?", "steps ", "steps 1", "wish\n", "house\n", "day", "day ", "day low",
    "day -", "day ann ", "day  ann", "day low  ann", "day low ann ", "day low, low ann", "day Low low ann",
    "day low low Ann", "day low low 1", "day low\nlow ann", "day low low toolongname", "day -- low ann", "day low / ann",
    "next", "next ", "next low ", "next  low", "next low  low", "next low, low", "next Low low", "next low 1",
    "next low\nlow", "next low\n", "undo", "redo", "history", "house\nann: low 1", "house ann", "house ann: low",
    "house ann: low 2", "house ann: low 1/2, low 1/2", "house ann: low 1/2,high 1/2", "house ann: low 2/4",
    "house ann: low 1/2 /bob: low 1/2", "house ann: low 1/2\nbob: low 1/2", "house ann: low 1/2 / bob: low 1/2 / ",
    "house  ann: low 1", "house ann: low 1 ", "house / ann: low 1", "house ann: a / bob: a / day a - 1",
    "house ann: low 1/2 //  bob: low 1/2", "wish ann low 1\n", "wish \n", "house ann: low 1/2 / ann: low 1/2",
]


def document_desk(*commands):
    desk = Desk()
    desk.run_all([HOUSE, *commands])
    return desk


def state_of(desk):
    """All that a desk tells, in values that can be compared."""
    wish = desk.wish_now()
    return (str(desk.house_now()), str(wish), desk.log_now(), desk.history())


def ways_back_and_forth(desk):
    """What can be undone and redone; afterwards the desk is as before."""
    undone, redone = [], []
    while desk.history():
        undone.append(desk.undo())
    state = state_of(desk)
    for _ in undone:
        desk.redo()
    while True:
        try:
            redone.append(desk.redo())
        except NothingToRedo:
            break
    for _ in redone:
        desk.undo()
    return undone, redone, state


class Model:
    """A desk that is told plainly: each row of changes is done again from the start."""

    def __init__(self):
        self.commands, self.taken = [], []

    def standing(self):
        house, wish, log = None, None, []
        for command in self.commands:
            word, _, rest = command.partition(" ")
            if word == "house":
                house, log = House.read(rest.replace(" / ", "\n")), []
                wish = Wish(house, {})
            elif word == "wish":
                wish = Wish.read(house, rest)
            elif word == "set":
                name, kind, number = rest.split(" ")
                wish = wish.with_number((name, kind), Ratio.read(number))
            elif word == "order":
                wish = order_wish(house, [tuple(pair.split(" ")) for pair in rest.split(", ")])
            elif word == "even":
                wish = even(house)
            else:
                *day, who = [None if part == "-" else part for part in rest.split(" ")]
                log.append((tuple(day), who))
        return house, wish, log

    def told(self):
        house, wish, log = self.standing()
        return (str(house), str(wish), log, self.commands)


def pairs_text(pairs):
    return ", ".join([name + " " + kind for name, kind in pairs])


def random_change(draw, house, log):
    """A change that can be done with a house, perhaps None, and so many items in the log."""
    kind = draw.randrange(9)
    if house is None or kind == 0:
        return "house " + str(draw.choice([document_house(), tied_house(), half_house(),
                                           *small_houses(draw.randrange(99), 2)])).replace("\n", " / ")
    if kind == 1:
        return "wish " + str(Wish(house, {pair: Ratio(draw.randint(0, 3), 3) for pair in house.pairs()}))
    if kind in (2, 3):
        return f"set {pairs_text([draw.choice(house.pairs())])} {draw.choice(['0', '1/3', '1', '7/5'])}"
    if kind == 4:
        return "order " + pairs_text(draw.sample(house.pairs(), draw.randint(1, len(house))))
    if kind == 5 or log >= 100:
        return "even"
    day = draw.choice(all_days(house))
    who = draw.choice([None, *[name for name, _ in there(house, day)]])
    return " ".join(["day", *["-" if part is None else part for part in (*day, who)]])


class Changes(Case):
    def test_document_example(self):
        desk = Desk()
        self.assertEqual(
            desk.run_all([HOUSE, "order ann high, bob low", "set ann low 1/4", "wish", "most bob low"]),
            [[], [], [], ["ann low 1/4; ann high 1; bob low 1/2"], ["1/2"]])
        self.assertEqual(
            [desk.trial(["even", "steps"]), desk.undo(), desk.run("day high low ann"), desk.run("next high -")],
            [[[], ["2/3: ann low, ann high, bob low"]], "set ann low 1/4", [], ["ann"]])

    def test_at_first(self):
        desk = Desk()
        self.assertEqual([desk.house_now(), desk.wish_now(), desk.log_now(), desk.history()], [None, None, [], []])
        self.assertEqual(vars(self.caught(NothingToUndo, desk.undo)), {})
        self.assertEqual(vars(self.caught(NothingToRedo, desk.redo)), {})

    def test_house(self):
        for house in [*small_houses(151, 30), large_house()]:
            desk = document_desk("even", "day low low bob")
            self.assertEqual(desk.run("house " + str(house).replace("\n", " / ")), [])
            self.assertIs(type(desk.house_now()), House)
            self.assertTrue(desk.house_now() == house)
            self.assertTrue(desk.wish_now() == Wish(house, {}))
            self.assertEqual(desk.log_now(), [])

    def test_the_same_house_again(self):
        desk = document_desk("even", "day low low bob", HOUSE)
        self.assertEqual((desk.wish_now().total(), desk.log_now(), len(desk.history())), (0, [], 4))

    def test_wishes(self):
        desk = document_desk("day low low bob")
        house = document_house()
        wish = Wish(house, {LOW: 3, BOB: Ratio(1, 3)})
        self.assertEqual(desk.run(command="wish " + str(wish)), [])
        self.assertIs(type(desk.wish_now()), Wish)
        self.assertTrue(desk.wish_now() == wish)
        desk.run("set bob low 5/2")
        self.assertTrue(desk.wish_now() == wish.with_number(BOB, Ratio(5, 2)))
        desk.run("order bob low, ann low")
        self.assertTrue(desk.wish_now() == order_wish(house, [BOB, LOW]))
        desk.run("order ann high")
        self.assertTrue(desk.wish_now() == order_wish(house, [HIGH]))
        desk.run("even")
        self.assertTrue(desk.wish_now() == even(house))
        self.assertEqual(desk.log_now(), [(("low", "low"), "bob")])

    def test_days(self):
        desk = document_desk("day low low bob", "day - - -", "day high - ann", "day high low -")
        self.assertEqual(desk.log_now(), [(("low", "low"), "bob"), ((None, None), None), (("high", None), "ann"),
                                          (("high", "low"), None)])
        self.assertTrue(desk.wish_now() == Wish(document_house(), {}))
        tied = Desk()
        tied.run_all([TIED, "day a a ann"])
        self.assertEqual(tied.log_now(), [(("a", "a"), "ann")])

    def test_changes_that_bring_nothing_new(self):
        desk = document_desk("even", "even", "set ann low 2/3")
        self.assertEqual(desk.history(), [HOUSE, "even", "even", "set ann low 2/3"])
        self.assertEqual([desk.undo(), desk.undo()], ["set ann low 2/3", "even"])


class Questions(Case):
    def test_all(self):
        draw = random.Random(152)
        for house in small_houses(153, 30):
            desk = Desk()
            desk.run("house " + str(house).replace("\n", " / "))
            for _ in range(4):
                desk.run(random_change(draw, house, 0))
                if desk.house_now() != house:
                    desk.undo()
            state, wish, log = state_of(desk), desk.wish_now(), desk.log_now()
            lot = draw.sample(house.pairs(), draw.randint(1, len(house)))
            pair, day = draw.choice(house.pairs()), draw.choice(all_days(house))
            words = " ".join(["-" if kind is None else kind for kind in day])
            self.assertEqual(desk.run("house"), str(house).split("\n"))
            self.assertEqual(desk.run("wish"), [str(wish)])
            self.assertEqual(desk.run("want " + pairs_text(lot)), [wish.want(lot).text()])
            self.assertEqual(desk.run("chance " + pairs_text(lot)), [coming(house, lot).text()])
            self.assertEqual(desk.run("next " + words),
                             ["-" if name is None else name for name in next_winners(house, log, day)])
            self.assertEqual(desk.run("steps"), [f"{height.text()}: {pairs_text(some)}"
                                                 for height, some in even_steps(house)])
            others = wish.with_number(pair, 0)
            expected = room(others, pair).text() if is_possible(others) else "never"
            self.assertEqual(desk.run("most " + pairs_text([pair])), [expected])
            if is_possible(wish):
                self.assertEqual(desk.run("possible"), ["yes"])
                self.assertEqual(desk.run("room " + pairs_text([pair])), [room(wish, pair).text()])
            else:
                self.assertEqual(desk.run("possible"), ["no", pairs_text(answer(wish)[1])])
            self.assertEqual(state_of(desk), state)

    def test_told_lots_show_it(self):
        desk = document_desk("wish ann low 1; ann high 1; bob low 1/10")
        word, lot = desk.run("possible")
        self.assertEqual(word, "no")
        lot = [tuple(pair.split(" ")) for pair in lot.split(", ")]
        self.assertTrue(Ratio(0).below(excess(desk.wish_now(), lot)))
        found = self.caught(Impossible, desk.run, "room bob low").lot
        self.assertTrue(Ratio(0).below(excess(desk.wish_now(), found)))
        self.assertEqual(desk.run("most bob low"), ["0"])
        desk.run("set ann low 2")
        self.assertEqual(desk.run("most bob low"), ["never"])
        self.assertEqual(desk.run("most ann low"), ["9/10"])

    def test_next(self):
        desk = document_desk()
        self.assertEqual(desk.run("next low low"), ["ann", "bob", "-"])
        self.assertEqual(desk.run("next - -"), ["-"])
        desk.run_all(["day low low ann", "day low low bob"])
        self.assertEqual(desk.run("next low low"), [])

    def test_steps_are_those_of_the_house(self):
        desk = document_desk("set ann low 1")
        self.assertEqual(desk.run("steps"), ["2/3: ann low, ann high, bob low"])
        desk.run("house ann: a / bob: a / cy: a / day a a - 2/3 / day - - a 1/3")
        self.assertEqual(desk.run("steps"), ["1/2: ann a, bob a", "1: cy a"])

    def test_new_lists(self):
        desk = document_desk("day low low bob")
        for question in ["house", "wish", "possible", "next low low", "steps"]:
            told = desk.run(question)
            kept = list(told)
            told.clear()
            self.assertEqual(desk.run(question), kept)
        desk.run("even").append("changed")
        desk.run_all([])
        desk.run_all(["wish"])[0].clear()
        desk.log_now().clear()
        desk.history().clear()
        self.assertEqual(desk.run("even"), [])
        self.assertEqual((len(desk.log_now()), desk.history()), (1, [HOUSE, "day low low bob", "even", "even"]))


class Refusals(Case):
    def test_forms_that_are_nearly_one(self):
        desks = [Desk(), document_desk("even", "day low low bob")]
        for desk in desks:
            state = state_of(desk)
            for wrong in [*any_values(), *NO_COMMANDS, [HOUSE], ("house",), document_house()]:
                with self.subTest(wrong):
                    self.refused(InvalidLine, wrong, desk.run, wrong)
                    self.refused(InvalidLine, wrong, desk.run_all, [HOUSE, wrong, None])
                    self.refused(InvalidLine, wrong, desk.trial, [HOUSE, "even", wrong])
            self.assertEqual(state_of(desk), state)

    def test_forms_that_are_right(self):
        desk = document_desk()
        for command in [*QUESTIONS, *[change for change in CHANGES if change != TIED]]:
            desk.run(command)

    def test_no_house(self):
        desk = Desk()
        for command in [*QUESTIONS, *[change for change in CHANGES if not change.startswith("house")], "wish zed",
                        "set zed zed 1", "order zed zed, zed zed", "day - zed", "next -", "wish  "]:
            self.assertEqual(vars(self.caught(NoHouse, desk.run, command)), {})
            self.caught(NoHouse, desk.trial, [command, HOUSE])
            self.caught(NoHouse, desk.run_all, [command, HOUSE])
        self.assertEqual(desk.history(), [])
        self.assertEqual(desk.trial([HOUSE, "wish"]), [[], ["ann low 0; ann high 0; bob low 0"]])

    def test_wrong_wishes(self):
        desk = document_desk()
        for text in ["zed", " ", " ann low 0; ann high 0; bob low 0", "ann low 0; ann high 0", "ann low 0",
                     "ann low 0; ann high 0; bob low 0 ", "ann low 0; ann high 0; bob low -1", "ann a 0; bob a 0",
                     "ann low 0;  ann high 0; bob low 0", "ann low 0; ann high 0; bob low 2/4"]:
            with self.subTest(text):
                self.refused_with_equal(InvalidText, text, desk.run, "wish " + text)

    def test_wrong_pairs(self):
        desk = document_desk()
        for word in ["order", "want", "chance"]:
            self.refused_with_equal(UnknownPair, ("ann", "zed"), desk.run, word + " ann low, ann zed, ann low, zed zed")
            self.refused_with_equal(Duplicate, LOW, desk.run, word + " ann low, bob low, ann low, zed zed")
            self.refused_with_equal(UnknownPair, ("bob", "high"), desk.run, word + " bob high, bob high")
        for command in ["set zed low 1", "room zed low", "most zed low"]:
            self.refused_with_equal(UnknownPair, ("zed", "low"), desk.run, command)
        desk.run("set ann low 9")
        self.refused_with_equal(UnknownPair, ("bob", "high"), desk.run, "room bob high")
        self.refused_with_equal(UnknownPair, ("bob", "high"), desk.run, "most bob high")
        self.refused_with_equal(Impossible, [LOW], desk.run, "room ann low")

    def test_wrong_days(self):
        desk = document_desk()
        for words, day in [("low", ("low",)), ("low low low", ("low",) * 3), ("zed low", ("zed", "low")),
                           ("low high", ("low", "high")), ("-", (None,)), ("- zed", (None, "zed"))]:
            self.refused_with_equal(InvalidDay, day, desk.run, "next " + words)
            self.refused_with_equal(InvalidDay, day, desk.run, f"day {words} zed")
            self.refused_with_equal(InvalidDay, day, desk.run, f"day {words} -")
        for who in ["zed", "bob", "low"]:
            self.refused_with_equal(UnknownName, who, desk.run, "day low - " + who)

    def test_full_log(self):
        desk = document_desk()
        desk.run_all(["day low low bob"] * 100)
        self.refused_with_equal(TooMany, 101, desk.run, "day low low bob")
        self.refused_with_equal(TooMany, 101, desk.run, "day - - -")
        self.refused_with_equal(UnknownName, "zed", desk.run, "day low low zed")
        self.refused_with_equal(InvalidDay, ("low",), desk.run, "day low bob")
        self.assertEqual(len(desk.log_now()), 100)
        self.assertEqual(desk.run("next low low"), ["bob"])
        desk.run(HOUSE)
        desk.run("day low low bob")

    def test_wrong_rows(self):
        desk = document_desk("even")
        state = state_of(desk)
        for wrong in [None, True, 0, Ratio(1), "", HOUSE, "even", {}, {"even": "even"}, ["even"] * 101,
                      ("even",) * 101, [None] * 101, document_house()]:
            self.refused(InvalidLine, wrong, desk.run_all, wrong)
            self.refused(InvalidLine, wrong, desk.trial, wrong)
        self.assertEqual(desk.run_all([]), [])
        self.assertEqual(desk.trial(()), [])
        self.assertEqual(desk.run_all(commands=("wish", "even")), [["ann low 2/3; ann high 2/3; bob low 2/3"], []])
        self.assertEqual(desk.trial(commands=["even"] * 100), [[]] * 100)
        desk.undo()
        self.assertEqual(state_of(desk), state)


class Rows(Case):
    def test_an_exception_leaves_the_desk(self):
        desk = document_desk("even", "day low low bob", "set ann low 1/9")
        desk.undo()
        state, ways = state_of(desk), ways_back_and_forth(desk)
        for wrong in ["zed", None, "wish zed", "set zed low 1", "order ann low, ann low", "day low low zed", "day low -",
                      "room zed zed"]:
            for call in (desk.run_all, desk.trial):
                self.caught(type(self.error_of(wrong)), call, ["even", TIED, HOUSE, "day low low ann", wrong, "even"])
                self.assertEqual(state_of(desk), state)
                self.assertEqual(ways_back_and_forth(desk), ways)
        self.assertEqual(desk.redo(), "set ann low 1/9")

    def error_of(self, command):
        try:
            document_desk().run(command)
        except WinError as error:
            return error
        return self.fail(command)

    def test_trials_leave_the_desk(self):
        desk = document_desk("even", "day low low bob")
        desk.undo()
        state, ways = state_of(desk), ways_back_and_forth(desk)
        answers = desk.trial([TIED, "wish", "even", "wish", "next a -", HOUSE, "wish"])
        self.assertEqual(answers, [[], ["ann a 0; bob a 0"], [], ["ann a 1; bob a 1"], ["ann", "-"], [],
                                   ["ann low 0; ann high 0; bob low 0"]])
        self.assertEqual((state_of(desk), ways_back_and_forth(desk)), (state, ways))

    def test_undo_and_redo(self):
        desk = document_desk("even", "day low low bob")
        self.assertEqual([desk.undo(), desk.undo()], ["day low low bob", "even"])
        self.assertEqual((desk.history(), desk.log_now(), desk.wish_now().total()), ([HOUSE], [], 0))
        self.assertEqual(desk.run("wish"), ["ann low 0; ann high 0; bob low 0"])
        self.assertEqual(desk.redo(), "even")
        self.assertTrue(desk.wish_now() == even(document_house()))
        desk.run("set ann low 1")
        self.caught(NothingToRedo, desk.redo)
        self.assertEqual(desk.history(), [HOUSE, "even", "set ann low 1"])
        self.assertEqual([desk.undo(), desk.undo(), desk.undo()], ["set ann low 1", "even", HOUSE])
        self.caught(NothingToUndo, desk.undo)
        self.assertEqual([desk.house_now(), desk.wish_now(), desk.log_now()], [None, None, []])
        self.caught(NoHouse, desk.run, "wish")
        self.assertEqual([desk.redo(), desk.redo(), desk.redo()], [HOUSE, "even", "set ann low 1"])
        self.caught(NothingToRedo, desk.redo)

    def test_undo_brings_back_an_earlier_house(self):
        desk = document_desk("even", "day low low bob", TIED, "day a - ann")
        desk.undo()
        desk.undo()
        self.assertTrue(desk.house_now() == document_house())
        self.assertTrue(desk.wish_now() == even(document_house()))
        self.assertEqual(desk.log_now(), [(("low", "low"), "bob")])

    def test_long_random_rows(self):
        draw = random.Random(155)
        for _ in range(12):
            desk, model = Desk(), Model()
            for _ in range(60):
                kind = draw.randrange(10)
                house, _, log = model.standing()
                change = random_change(draw, house, len(log))
                if kind < 4:
                    self.assertEqual(desk.run(change), [])
                    model.commands, model.taken = [*model.commands, change], []
                elif kind == 4 and model.commands:
                    model.taken.append(model.commands.pop())
                    self.assertEqual(desk.undo(), model.taken[-1])
                elif kind == 5 and model.taken:
                    model.commands.append(model.taken.pop())
                    self.assertEqual(desk.redo(), model.commands[-1])
                elif kind == 6:
                    self.assertEqual(desk.trial([change, "wish"])[0], [])
                elif kind == 7:
                    self.caught(InvalidLine, desk.run_all, [change, "zed"])
                elif kind == 8:
                    self.assertEqual(desk.run_all([change, "wish", change])[::2], [[], []])
                    model.commands, model.taken = [*model.commands, change, change], []
                elif house is not None:
                    self.assertEqual(desk.run_all(["wish", "house"]),
                                     [[str(desk.wish_now())], str(house).split("\n")])
                self.assertEqual(state_of(desk), model.told())

    def test_two_desks_share_nothing(self):
        one, other = Desk(), Desk()
        one.run(HOUSE)
        self.assertEqual((other.house_now(), other.history()), (None, []))


if __name__ == "__main__":
    unittest.main()
