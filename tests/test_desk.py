"""duskisles/desk.py: lines and their answers."""

import random
import unittest

from duskisles.chips import Chip
from duskisles.cones import cone
from duskisles.desk import Desk
from duskisles.errors import (CannotSleep, HasTurns, HoldsOwn, InvalidEvent, InvalidIsle, InvalidText, NoIsle, NoQuestion, NoSpot, NothingToUndo,
                              NotNow, NotSafe, NoWire, TooMany, UnknownCommand)
from duskisles.hearing import hearing
from duskisles.isles import Isle
from duskisles.judge import judged
from duskisles.marks import bad_moments, begin, step
from duskisles.mends import mending
from duskisles.needs import Sleepers, sleepless
from duskisles.orders import Orders
from duskisles.rests import sleepers
from duskisles.shortest import shortest
from duskisles.spots import propped, spots
from duskisles.stations import Clamp, Holding, Pass
from duskisles.texts import write_chip, write_events
from duskisles.verdict import verdict
from duskisles.wires import Wire
from made import made_chip, made_run
from values import ANY, error_of, is_assigned

TEXT = "shore 1 / isle a 1 0 / isle b 1 1 / leash b c / needs b a / isle c 1 1 / wire x a b / clamp x b a 0 c / pass x shore"
CHIP = Chip(Isle("a", plain=0), Isle("b", leash=("c",), needs=("a",)), Isle("c"),
            wires=(Wire("x", "a", "b", Clamp("b", "a", line=("c",)), Pass("shore")),))
LATE = "shore 1 / isle a 0 1 / sleep a still shut / wake a go open / wire x a shore / clamp x shore a 0"

# For each command a line with right words, each word of another kind that is wrong there, and whether it takes one or more words.
LINES = {
    "show": ([], False), "undo": ([], False), "redo": ([], False), "verdict": ([], False), "sleepless": ([], False), "spots": ([], False),
    "mend": ([], False), "sleepers": ([], False), "rest": (["name"], True), "rouse": (["name"], True), "prop": (["spot"], True), "do": (["event"], True),
    "back": (["count"], False), "post": (["name"], False), "ask": (["kind", "name"], False), "fewest": (["kind", "name"], False),
    "cone": (["kind", "name"], False), "together": (["name"], True), "pairs": (["name"], False), "heard": (["wire"], False),
}
RIGHT = {"name": "a", "spot": "x.0", "event": "a+", "count": "1", "kind": "isle", "wire": "x"}
WRONG = {
    "name": ["", "shore", "A", "abcdefghi", "a+", "a/0", "x.0", "1", "a\n", "-", "a:0"],
    "spot": ["", "x", "x.", "x.a", "x.10", "x.0.", "x.0.0.0", "x.0.10", "x..0", ".0", "shore.0", "a:", "a:10", "a:0.0", "a:0:0", ":0", "shore:0", "x.0:0", "X.0",
             "x.-1", "x.0\n", "abcdefghi.0", "a::0", "-"],
    "event": ["", "shore", "-", "a/6", "a/", "a/00", "shore/0", "+", "a++", "A", "a\n", "abcdefghi", "1"],
    "count": ["", "0", "00", "01", "100", "-1", "a", "1.0", "+1", "999", "1\n"],
    "kind": ["", "isles", "Isle", "a", "shore", "wire\n", "x"],
}
WRONG["wire"] = WRONG["name"]


def desk_with(text=TEXT):
    desk = Desk()
    desk.say("load " + text)
    return desk


def told(moments):
    return ", ".join(" ".join(moment) for moment in moments) or "-"


def joined(words):
    return " ".join(words) or "-"


def spot_word(spot):
    return f"{spot[1]}:{spot[2]}" if spot[0] == "leash" else ".".join(str(part) for part in spot[1:])


class AnswersTest(unittest.TestCase):

    def test_the_first_chip(self):
        desk = Desk()
        self.assertEqual((desk.chip, desk.say("show"), desk.say("post a"), desk.say("verdict")), (Chip(Isle("a")), "shore 1 / isle a 1 1", "up 0", "safe"))
        self.assertFalse(is_assigned(desk, "chip", CHIP))

    def test_load_and_show(self):
        desk = Desk()
        self.assertEqual((desk.say("load " + TEXT), desk.chip, desk.say("show")), ("ok", CHIP, TEXT))
        self.assertEqual(desk.say(line="load shore 2 / isle b 1 1 / isle a 1 1"), "ok")
        self.assertEqual(desk.say("show"), "shore 2 / isle a 1 1 / isle b 1 1")

    def test_changes_and_history(self):
        desk = desk_with()
        self.assertEqual((desk.say("rest c a"), desk.chip), ("ok", CHIP.with_isles(CHIP["a"].changed(sleeps=False), CHIP["c"].changed(sleeps=False))))
        self.assertEqual((desk.say("rouse a a"), desk.chip), ("ok", CHIP.with_isles(CHIP["c"].changed(sleeps=False))))
        self.assertEqual((desk.say("prop b:0 x.0.0 x.0 x.0"), desk.chip),
                         ("ok", propped(CHIP.with_isles(CHIP["c"].changed(sleeps=False)), ("leash", "b", 0), ("line", "x", 0, 0), ("station", "x", 0))))
        self.assertEqual((desk.say("undo"), desk.say("undo"), desk.say("undo"), desk.chip), ("ok", "ok", "ok", CHIP))
        self.assertEqual((desk.say("redo"), desk.chip["a"].sleeps), ("ok", False))
        self.assertEqual((desk.say("undo"), desk.say("undo"), desk.chip), ("ok", "ok", Chip(Isle("a"))))
        self.assertIsInstance(error_of(desk.say, "undo"), NothingToUndo)
        self.assertEqual(desk.say("rest a"), "ok")
        error = error_of(desk.say, "redo")
        self.assertEqual((type(error), error.count), (NothingToUndo, 1))

    def test_the_weave_begins_anew_at_each_change(self):
        for line in ("load " + TEXT, "prop x.0", "rest b", "rouse b", "undo", "redo"):
            desk = desk_with()
            desk.say("rest a")
            desk.say("rest a")
            desk.say("undo")
            desk.say("do c c a+" if line == "undo" else "do c")
            self.assertEqual(desk.say("post c")[:7], "falling")
            self.assertEqual((desk.say(line), desk.say("post c"), type(error_of(desk.say, "back 1"))), ("ok", "up 0", NothingToUndo))
        for line in ("show", "verdict", "ask isle a", "pairs c", "spots", "mend", "sleepers", "heard x"):
            desk = desk_with()
            desk.say("do c c")
            desk.say(line)
            self.assertEqual(desk.say("post c"), "falling 2")

    def test_events(self):
        desk = desk_with()
        self.assertEqual([desk.say(line) for line in ("do shore+ a+", "do c c c", "do c", "post c", "post b", "back 1", "post c", "back 3", "post c")],
                         ["-", "-", "lost b, own b, wire x", "asleep 0", "up 0", "-", "falling 3", "-", "up 0"])
        self.assertEqual([type(error_of(desk.say, line)) for line in ("back 3", "do c c c c d", "do b a")], [NothingToUndo, InvalidEvent, NotNow])
        self.assertEqual([error_of(desk.say, line).index for line in ("do c c c c d", "do b+ c c+", "do a/0", "do a")], [4, 2, 0, 0])
        self.assertEqual((error_of(desk.say, "back 99").count, desk.say("back 2"), desk.say("post c")), (99, "-", "up 0"))

    def test_turns(self):
        desk = desk_with("shore 1 / isle a 1 1 / turn a sleep 1 2")
        self.assertEqual([desk.say(line) for line in ("do a a/0", "post a", "do a a a", "post a", "back 5", "post a")], ["-", "waking 2", "-", "up 0", "-", "up 0"])

    def test_questions(self):
        desk = desk_with()
        bad = CHIP.with_isles(Isle("c", kept=0, sleep=("dark",), wake=("lit",)))
        for chip in (CHIP, bad, Chip(Isle("a")), Chip.read(LATE.replace(" / ", "\n"))):
            desk.say("load " + str(chip).replace("\n", " / "))
            found = verdict(chip)
            self.assertEqual(desk.say("verdict"), found[0] if found[0] == "safe" else "bad " + " ".join(found[1]))
            for question in chip.questions:
                words = " ".join(question)
                word, answer = judged(chip, question)
                self.assertEqual(desk.say("ask " + words), f"safe {len(answer)}" if word == "safe" else "bad " + write_events(answer))
                run = shortest(chip, question)
                self.assertEqual(desk.say("fewest " + words), "safe" if run is None else write_events(run))
                self.assertEqual(desk.say("cone " + words), joined(cone(chip, question)))

    def test_ask_of_a_safe_question(self):
        desk = desk_with("shore 1 / isle a 1 1 / isle b 1 1 / wire x a b / clamp x b a 0")
        self.assertEqual([desk.say(line) for line in ("ask wire x", "fewest wire x", "cone wire x", "verdict", "heard x")], ["safe 48", "safe", "a b", "safe", "always"])

    def test_sleepless_and_together(self):
        desk = desk_with("shore 1 / isle a 1 1 / needs a b / isle b 1 1 / isle c 1 1 / rests c / isle d 1 1")
        self.assertEqual([desk.say(line) for line in ("sleepless", "together a", "together b", "together b a", "together a b a", "together c", "together d a", "together d c")],
                         ["c", "yes", "no", "yes", "yes", "no", "yes", "no"])
        self.assertEqual((Desk().say("sleepless"), type(error_of(desk.say, "together a z"))), ("-", NoIsle))

    def test_pairs(self):
        desk = desk_with("shore 1 / isle a 1 1 / isle b 1 1 / wire x a b / clamp x b a 0")
        for name in "ab":
            self.assertEqual(desk.say("pairs " + name), told(Orders(desk.chip, name).pairs))
        desk.say("load shore 1 / isle a 0 1 / sleep a still dark / wake a go lit reset")
        self.assertEqual(desk.say("pairs a"), "lit reset, reset go, still dark")
        desk.say("rest a")
        self.assertEqual(desk.say("pairs a"), "-")
        desk.say("load shore 1 / isle a 0 1 / isle b 0 1 / sleep b dark / wake b lit")
        self.assertEqual((desk.say("pairs a"), desk.say("pairs b")), ("none", "none"))

    def test_spots_mend_and_sleepers(self):
        desk = desk_with()
        self.assertEqual(desk.say("spots"), "b:0 x.0.0 x.0")
        self.assertEqual(desk.say("mend"), joined(spot_word(row[0]) for row in mending(CHIP)))
        self.assertEqual(desk.say("sleepers"), joined(sleepers(CHIP)[0]))
        self.assertEqual((Desk().say("spots"), Desk().say("mend"), Desk().say("sleepers")), ("-", "-", "a"))
        lost = desk_with("shore 1 / isle a 0 1 / sleep a dark / wake a lit")
        self.assertEqual((lost.say("mend"), lost.say("sleepers"), type(error_of(mending, lost.chip))), ("never", "-", NotSafe))

    def test_heard(self):
        desk = desk_with(LATE)
        word, run = hearing(desk.chip, "x")
        self.assertEqual((word, desk.say("heard x")), ("not", write_events(run)))
        self.assertEqual((error_of(desk.say, "heard a").which, type(error_of(desk.say, "heard a"))), ("a", NoWire))

    def test_chips_by_chance(self):
        for seed in range(40):
            dice = random.Random(seed)
            chip = made_chip(dice, 3, 2, turns=2)
            desk = desk_with(write_chip(chip).replace("\n", " / "))
            self.assertEqual((desk.chip, desk.say("show")), (chip, write_chip(chip).replace("\n", " / ")))
            run, state = made_run(dice, chip, 12), begin(chip)
            for event in run:
                state = step(chip, state, event)
                self.assertEqual(desk.say("do " + write_events([event])), told(bad_moments(chip, state)))
                for index, name in enumerate(chip.names):
                    self.assertEqual(desk.say("post " + name), f"{state[0][index][0]} {state[0][index][1]}")
            self.assertEqual(desk.say("back 12"), "-")
            self.assertEqual(desk.say("do " + write_events(run)), told(bad_moments(chip, state)))
            self.assertEqual((desk.say("sleepless"), desk.say("spots")), (joined(sleepless(chip)), joined(spot_word(spot) for spot in spots(chip))))
            for name in chip.wires:
                word, found = hearing(chip, name)
                self.assertEqual(desk.say("heard " + name), word if word == "always" else write_events(found))
            for name in chip.names:
                self.assertEqual(desk.say("together " + name), "no" if isinstance(error_of_sleepers(chip, name), CannotSleep) else "yes")
            self.assertEqual(desk.say("sleepers"), joined(sleepers(chip)[0]))
            self.assertEqual(desk.say("verdict").split(" ")[0], verdict(chip)[0])

    def test_say_all(self):
        desk = Desk()
        answers = desk.say_all("load " + TEXT, "show", "do c", "nonsense", "show")
        self.assertEqual(desk.chip, Chip(Isle("a")))
        self.assertEqual((next(answers), desk.chip), ("ok", CHIP))
        self.assertEqual((next(answers), desk.say("post c"), next(answers), desk.say("post c")), (TEXT, "up 0", "-", "falling 1"))
        self.assertIsInstance(error_of(next, answers), UnknownCommand)
        self.assertEqual(list(desk.say_all()), [])
        both = zip(desk.say_all("do c", "back 1"), desk.say_all("post c", "post c"))
        self.assertEqual(list(both), [("-", "falling 2"), ("-", "falling 1")])


def error_of_sleepers(chip, name):
    try:
        Sleepers(chip, name)
    except Exception as error:
        return error
    return None


class RefusedTest(unittest.TestCase):

    def setUp(self):
        self.desk = desk_with()
        self.desk.say("rest a")
        self.desk.say("rest b")
        self.desk.say("undo")
        self.desk.say("do c c")

    def tearDown(self):
        """Nothing has changed: chip, history and weave."""
        self.assertEqual(self.desk.chip, CHIP.with_isles(CHIP["a"].changed(sleeps=False)))
        self.assertEqual((self.desk.say("post c"), self.desk.say("do c"), self.desk.say("post c"), self.desk.say("back 3"), self.desk.say("post c")),
                         ("falling 2", "-", "falling 3", "-", "up 0"))
        self.assertIsInstance(error_of(self.desk.say, "back 1"), NothingToUndo)
        self.desk.say("redo")
        self.assertEqual((self.desk.chip["b"].sleeps, type(error_of(self.desk.say, "redo"))), (False, NothingToUndo))
        self.assertEqual([self.desk.say("undo") for _ in range(3)], ["ok"] * 3)
        self.assertEqual((self.desk.chip, type(error_of(self.desk.say, "undo"))), (Chip(Isle("a")), NothingToUndo))

    def invalid(self, line, row, word):
        error = error_of(self.desk.say, line)
        self.assertEqual((type(error), error.row, error.word), (InvalidText, row, word), line)

    def unknown(self, line):
        self.assertEqual(type(error_of(self.desk.say, line)), UnknownCommand, line)

    def test_values_that_are_no_commands(self):
        for value in ANY:
            self.unknown(value)
        for line in ("Show", "show\n", " show", "load", "loads x", "load\nshore 1", "verdicts", "help", "a", "undo redo", "say show"):
            self.unknown(line)

    def test_words_left_out_and_one_too_many(self):
        for command, (kinds, many) in LINES.items():
            words = [RIGHT[kind] for kind in kinds]
            for count in range(len(words)):
                self.unknown(" ".join([command, *words[:count]]))
            if not many:
                for more in ("", "a", "x.0"):
                    self.unknown(" ".join([command, *words, more]))
                self.unknown(" ".join([command, *words, "a", "a"]))

    def test_each_word_wrong(self):
        for command, (kinds, many) in LINES.items():
            right = [RIGHT[kind] for kind in kinds]
            for at, kind in enumerate(kinds):
                for wrong in WRONG[kind]:
                    words = [*right[:at], wrong, *right[at + 1:]]
                    self.invalid(" ".join([command, *words]), 0, at + 1)
                    if many:
                        self.invalid(" ".join([command, *right, *right, wrong, wrong]), 0, 3)
                    elif at == 0 and len(kinds) == 2:
                        self.invalid(" ".join([command, wrong, ""]), 0, 1)

    def test_number_of_words_ahead_of_words(self):
        for line in ("ask isles", "ask isle a b", "back 0 0", "post shore a", "heard A B", "cone x"):
            self.unknown(line)

    def test_words_ahead_of_other_errors(self):
        for line, word in (("rest z A", 2), ("do z a z/9", 3), ("prop z.0 y:0 x", 3), ("together z shore", 2), ("ask wire 1", 2)):
            self.invalid(line, 0, word)

    def test_load(self):
        for text, row, word in (("", 0, 0), (" ", 0, 0), ("shore", 0, 1), ("shore 1", 1, 0), ("shore 1 / isle a 1 4", 1, 3), ("shore 1 / isle a 1 1 / ", 2, 0),
                                ("shore 1/ isle a 1 1", 0, 1), ("shore 1 /isle a 1 1", 0, 2), ("shore 1 / isle a 1 1 / pass x a", 2, 0), (" shore 1", 0, 0),
                                ("shore 1\nisle a 1 1", 0, 1), ("shore 1 / isle a 1 1\nisle b 1 1", 1, 3), ("shore 1 / isle a\n 1 1", 1, 1),
                                ("shore 1 / isle a 1 1 / isle b 1 1\n", 2, 3), ("shore 1 /  / isle a 1 1", 1, 0), ("shore 1 / / isle a 1 1", 1, 0),
                                ("shore 1  / isle a 1 1", 0, 2), ("shore 1 /  isle a 1 1", 1, 0), ("\nshore 1 / isle a 1 1", 0, 0), (" / ", 0, 0)):
            self.invalid("load " + text, row, word)

    def test_load_of_wrong_chips(self):
        error = error_of(self.desk.say, "load shore 1 / isle a 0 0")
        self.assertEqual((type(error), error.which, error.part), (InvalidIsle, "a", "registers"))
        self.assertEqual(repr(error_of(self.desk.say, "load shore 1 / isle a 1 1 / needs a b")), "InvalidChip('needs', 'a')")

    def test_names_that_are_none(self):
        for line, which in (("rest a z", "z"), ("rouse z y", "z"), ("post z", "z"), ("post x", "x"), ("together z", "z"), ("pairs z", "z")):
            error = error_of(self.desk.say, line)
            self.assertEqual((type(error), error.which), (NoIsle, which), line)
        self.assertEqual(type(error_of(self.desk.say, "heard z")), NoWire)
        for command in ("ask", "fewest", "cone"):
            for words in (("isle", "z"), ("wire", "a"), ("isle", "x")):
                error = error_of(self.desk.say, " ".join([command, *words]))
                self.assertEqual((type(error), error.value), (NoQuestion, words))

    def test_spots_that_are_none(self):
        for line, spot in (("prop x.0 x.1", ("station", "x", 1)), ("prop z.0", ("station", "z", 0)), ("prop x.0.1 x.9", ("line", "x", 0, 1)),
                           ("prop b:1", ("leash", "b", 1)), ("prop a:0", ("leash", "a", 0)), ("prop x.9", ("station", "x", 9)), ("prop b.0", ("station", "b", 0)),
                           ("prop x:0", ("leash", "x", 0))):
            error = error_of(self.desk.say, line)
            self.assertEqual((type(error), error.value), (NoSpot, spot))

    def test_events_that_cannot_come(self):
        self.assertEqual(error_of(self.desk.say, "do c c a").index, 2)
        self.assertEqual((type(error_of(self.desk.say, "do c c c+")), error_of(self.desk.say, "do c z").index), (NotNow, 1))


class BoundsTest(unittest.TestCase):

    def test_turns_and_holding_clamps(self):
        desk = desk_with("shore 1 / isle a 1 1 / turn a sleep 1 1 / isle b 1 1 / wire x a b / hold x shore b")
        self.assertEqual((type(error_of(desk.say, "pairs a")), type(error_of(desk.say, "pairs b"))), (HasTurns, HoldsOwn))
        self.assertEqual(desk.chip.wire("x").stations, (Holding("shore", "b"),))

    def test_too_many(self):
        desk = desk_with(" / ".join(["shore 1", *[f"isle {name} 1 1" for name in "abcdefgh"], "wire x a b",
                                     *[f"clamp x {on} {owner} 0" for on, owner in zip("cdefg", "hgfed")]]))
        for line in ("ask wire x", "fewest wire x", "verdict"):
            error = error_of(desk.say, line)
            self.assertEqual((type(error), error.most), (TooMany, 20000))
        self.assertEqual(desk.say("post a"), "up 0")


if __name__ == "__main__":
    unittest.main()
