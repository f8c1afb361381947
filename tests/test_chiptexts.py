"""[24], duskisles/texts.py: what Chip.read and str(chip) tell."""

import random
import unittest

from duskisles.chipreading import CHOICES, FORMS, _is_plain, _wrong_word
from duskisles.chips import Chip
from duskisles.errors import InvalidText
from duskisles.isles import Isle
from duskisles.stations import Clamp, Holding, Pass
from duskisles.wires import Wire
from values import ANY, error_of, raised

FULL = """shore 3
isle a 0 2
leash a c b
needs a b c
rests a
sleep a dark still
wake a go
turn a sleep 1 0
isle b 1 1
isle c 3 0
turn c wake 4 3
turn c sleep 1 0
wire a shore c
pass a shore
wire x a b
clamp x b a 1 b c
hold x shore c
clamp x a c 0
hold x c c a
pass x b"""


def full_chip():
    a = Isle("a", kept=0, plain=2, leash=("c", "b"), needs=("c", "b"), sleeps=False, sleep=("dark", "still"), wake=("go",),
             turns=(("sleep", 1, 0),))
    c = Isle("c", kept=3, plain=0, turns=(("wake", 4, 3), ("sleep", 1, 0)))
    x = Wire("x", "a", "b", Clamp("b", "a", gives=1, line=("b", "c")), Holding("shore", "c"), Clamp("a", "c"),
             Holding("c", "c", line=("a",)), Pass("b"))
    return Chip(c, a, Isle("b"), wires=(x, Wire("a", "shore", "c", Pass("shore"))), shore=3)


class WrittenTest(unittest.TestCase):

    def test_the_whole_text(self):
        self.assertEqual(str(full_chip()), FULL)
        self.assertEqual(str(Chip(Isle("a"))), "shore 1\nisle a 1 1")

    def test_defaults_need_no_lines(self):
        for parts, lines in (({"leash": ("b",)}, ["leash a b"]), ({"needs": ("b",)}, ["needs a b"]),
                             ({"sleeps": False}, ["rests a"]), ({"sleep": ("dark",)}, ["sleep a dark"]),
                             ({"wake": ("lit", "go")}, ["wake a lit go"]),
                             ({"turns": (("wake", 1, 2),)}, ["turn a wake 1 2"]),
                             ({"sleep": Isle.SLEEP, "wake": Isle.WAKE}, [])):
            chip = Chip(Isle("a", **parts), Isle("b"))
            self.assertEqual(str(chip).split("\n"), ["shore 1", "isle a 1 1"] + lines + ["isle b 1 1"])
            self.assertEqual(Chip.read(str(chip)), chip)

    def test_a_row_in_another_order_is_not_the_default(self):
        chip = Chip(Isle("a", sleep=("still", "shut", "dark", "save"), wake=("lit", "back", "reset", "open", "go")))
        self.assertEqual(str(chip), "shore 1\nisle a 1 1\nsleep a still shut dark save\nwake a lit back reset open go")


class ReadTest(unittest.TestCase):

    def test_what_was_written_is_read(self):
        self.assertEqual(Chip.read(FULL), full_chip())
        self.assertEqual(str(Chip.read(FULL)), FULL)
        self.assertEqual(Chip.read(text="shore 2\nisle a 1 1"), Chip(Isle("a"), shore=2))

    def test_the_examples_of_the_document(self):
        text = "shore 1\nisle b 1 0\nisle a 0 2\nneeds a b\nturn a sleep 1 3\nwire x a b\nhold x b a\nclamp x b a 1 b"
        self.assertEqual(str(Chip.read(text)), "shore 1\nisle a 0 2\nneeds a b\nturn a sleep 1 3\nisle b 1 0\nwire x a b\n"
                                               "hold x b a\nclamp x b a 1 b")
        for text, told in (("shore 1\nisle a 1 4", "InvalidText(1, 3)"),
                           ("shore 1\nisle a 1 1\nneeds a b\nleash a b", "InvalidText(3, 0)"),
                           ("shore 1\nisle a 1 1\nneeds a b", "InvalidChip('needs', 'a')")):
            self.assertEqual(raised(Chip.read, text), told)

    def test_isles_and_wires_in_any_order(self):
        text = "shore 1\nisle b 1 1\nrests b\nisle a 2 0\nneeds a b\nwire y a b\nwire x b a\npass x a\nhold x b a"
        chip = Chip(Isle("b", sleeps=False), Isle("a", kept=2, plain=0, needs=("b",)),
                    wires=(Wire("y", "a", "b"), Wire("x", "b", "a", Pass("a"), Holding("b", "a"))))
        self.assertEqual(Chip.read(text), chip)
        self.assertEqual(str(chip), "shore 1\nisle a 2 0\nneeds a b\nisle b 1 1\nrests b\nwire x b a\npass x a\nhold x b a"
                                    "\nwire y a b")

    def test_lines_that_say_what_is_the_default(self):
        text = "shore 1\nisle a 1 1\nsleep a still shut save dark\nwake a lit reset back open go"
        self.assertEqual(Chip.read(text), Chip(Isle("a")))

    def test_needs_are_read_in_any_order(self):
        text = "shore 1\nisle a 1 1\nneeds a c b\nisle b 1 1\nisle c 1 1"
        self.assertEqual(Chip.read(text)["a"].needs, ("b", "c"))

    def test_most_of_everything(self):
        names = "bcdefgh"
        lines = ["shore 3", "isle a 3 3", "leash a b c d e", "needs a " + " ".join(names)]
        lines += [f"turn a sleep 1 {end}" for end in range(5)] + ["turn a wake 1 0"]
        lines += [f"isle {name} 1 1" for name in names] + ["wire x a shore"] + ["hold x b a a b c d"] * 5
        chip = Chip.read("\n".join(lines))
        self.assertEqual([len(chip), chip["a"].needs, len(chip["a"].turns), len(chip.wire("x"))],
                         [8, tuple(names), 6, 5])
        self.assertEqual(str(chip), "\n".join(lines))


class RefusedTest(unittest.TestCase):

    def wrong(self, text, row, word):
        error = error_of(Chip.read, text)
        self.assertEqual((type(error), error.row, error.word), (InvalidText, row, word), text)

    def last(self, line, word, *ahead):
        """A line that is wrong at a word, behind a right text."""
        lines = ["shore 1", "isle a 1 1", *ahead, line]
        self.wrong("\n".join(lines), len(lines) - 1, word)
        self.wrong("\n".join(lines + ["what", "ever"]), len(lines) - 1, word)

    def test_other_values(self):
        for value in ANY:
            if not isinstance(value, str):
                self.wrong(value, 0, 0)
        self.wrong("", 0, 0)

    def test_the_line_of_the_shore(self):
        for line, word in (("shore", 1), ("shore 0", 1), ("shore 4", 1), ("shore 01", 1), ("shore 1 1", 2), ("shore 1 ", 2),
                           (" shore 1", 0), ("shore  1", 1), ("isle a 1 1", 0), ("Shore 1", 0), ("shore1", 0),
                           ("shore -1", 1), ("shore a", 1), ("shore 11", 1), (" ", 0)):
            self.wrong(line, 0, word)
            self.wrong(line + "\nisle a 1 1", 0, word)

    def test_a_text_without_isles(self):
        self.wrong("shore 1", 1, 0)
        for line in ("", "wire x a b", "shore 1", "leash a b", "pass x a", "rests a"):
            self.wrong("shore 1\n" + line, 1, 0)

    def test_the_line_of_an_isle(self):
        for line, word in (("isle", 1), ("isle a", 2), ("isle a 1", 3), ("isle a 1 1 1", 4), ("isle a 4 1", 2),
                           ("isle a 1 4", 3), ("isle a 01 1", 2), ("isle shore 1 1", 1), ("isle A 1 1", 1),
                           ("isle abcdefghi 1 1", 1), ("isle  1 1", 1), ("isle a  1", 2), ("isle a 1 ", 3),
                           ("isle a -1 1", 2), ("isle a 1 1 ", 4), ("isle a b 9", 2), ("islea 1 1", 0)):
            self.wrong("shore 1\n" + line, 1, word)
            self.last(line, word)

    def test_the_lines_below_an_isle(self):
        for line, word in (
                ("leash", 1), ("leash a", 2), ("leash b c", 1), ("leash a B", 2), ("leash a b c d e f", 6),
                ("leash a b ", 3), ("leash  b", 1), ("leash a  b", 2), ("needs", 1), ("needs a", 2), ("needs shore b", 1),
                ("needs a b c d e f g h i", 9), ("needs a 1", 2), ("rests", 1), ("rests b", 1), ("rests a a", 2),
                ("sleep", 1), ("sleep a", 2), ("sleep b dark", 1), ("sleep a lit", 2), ("sleep a dark go", 3),
                ("sleep a dark dark dark dark dark", 6), ("wake", 1), ("wake a", 2), ("wake b go", 1), ("wake a dark", 2),
                ("wake a go go go go go go", 7), ("wake a go ", 3), ("turn", 1), ("turn a", 2), ("turn a sleep", 3),
                ("turn a sleep 1", 4), ("turn a sleep 1 1 1", 5), ("turn a up 1 1", 2), ("turn a sleep 10 1", 3),
                ("turn a wake 1 -1", 4), ("turn a wake 1 x", 4), ("turn b wake 1 1", 1), ("", 0), (" ", 0), ("LEASH a b", 0),
                ("shore 1", 0), ("pass a a", 0), ("clamp a a a 0", 0), ("hold a a a", 0), ("turns a sleep 1 1", 0)):
            self.last(line, word)

    def test_lines_at_another_place(self):
        lines = ["leash a b", "needs a b", "rests a", "sleep a dark", "wake a go", "turn a wake 1 1"]
        for at, line in enumerate(lines):
            for other in lines[:at] + ([line] if line[:4] != "turn" else []):
                self.last(other, 0, line)
            for other in lines:
                self.last(other, 0, line, "wire x a b")
                self.last(other, 1, "isle b 1 1")
        self.last("leash a b", 0, "wake a go", "turn a wake 1 1")
        self.last("isle b 1 1", 0, "wire x a shore")
        self.last("isle b 1 1", 0, "wire x a shore", "pass x a")
        self.last("shore 1", 0, "wire x a shore")

    def test_too_many_lines(self):
        self.last("turn a sleep 1 1", 0, *["turn a sleep 1 1"] * 6)
        for line in ("pass x a", "clamp x a a 0", "hold x a a"):
            self.last(line, 0, "wire x a shore", *["pass x a", "hold x a a", "clamp x a a 0", "pass x a", "pass x a"])
            self.last(line, 1, "wire x a shore", *["pass x a"] * 5, "wire y a shore")

    def test_the_lines_of_wires(self):
        for line, word in (("wire", 1), ("wire x", 2), ("wire x a", 3), ("wire x a b c", 4), ("wire shore a b", 1),
                           ("wire X a b", 1), ("wire x A b", 2), ("wire x a ", 3), ("wire x a b ", 4), ("wire x  b", 2)):
            self.last(line, word)
            self.last(line, word, "wire y a shore", "pass y a")
        for line, word in (("pass", 1), ("pass x", 2), ("pass y a", 1), ("pass x A", 2), ("pass x a a", 3), ("clamp", 1),
                           ("clamp x", 2), ("clamp x a", 3), ("clamp x a a", 4), ("clamp y a a 0", 1), ("clamp x 1 a 0", 2),
                           ("clamp x a 1 0", 3), ("clamp x a a 2", 4), ("clamp x a a b", 4), ("clamp x a a 00", 4),
                           ("clamp x a a 0 1", 5), ("clamp x a a 0 a b c d e", 9), ("clamp x a a 0 ", 5), ("hold", 1),
                           ("hold x", 2), ("hold x a", 3), ("hold y a a", 1), ("hold x a a 0", 4), ("hold x a a ", 4),
                           ("hold x a a a b c d e", 8), ("hold x a  a", 3), ("", 0), ("pass  a", 1)):
            self.last(line, word, "wire x a shore")
            self.last(line, word, "wire x a shore", "hold x a a")

    def test_the_first_wrong_line_is_told(self):
        self.wrong("shore 1\nisle a 1 9\nisle", 1, 3)
        self.wrong("shore 1\nisle a 0 0\nisle a 1 1\nwire x a a\nclamp x shore shore 0 shore\npass y a", 5, 1)
        self.wrong("shore 1\nisle a 1 1\n", 2, 0)
        self.wrong("shore 1\n\nisle a 1 1", 1, 0)

    def test_numbers_of_turns_have_one_digit(self):
        for digit in "0123456789":
            for turn in (f"sleep {digit} 9", f"wake 9 {digit}"):
                self.assertEqual(raised(Chip.read, "shore 1\nisle a 1 1\nturn a " + turn), "InvalidIsle('a', 'turns')")
            self.last(f"turn a sleep {digit}{digit} 1", 3)
            self.last(f"turn a sleep 1 {digit}{digit}", 4)

    def test_then_the_errors_of_the_classes(self):
        head = "shore 1\nisle b 1 1\nisle a 1 1"
        for text, told in (
                ("shore 1\nisle b 0 0\nisle a 0 0", "InvalidIsle('b', 'registers')"),
                (head + "\nleash a a", "InvalidIsle('a', 'leash')"),
                (head + "\nleash a b b", "InvalidIsle('a', 'leash')"),
                (head + "\nleash a shore", "InvalidIsle('a', 'leash')"),
                (head + "\nneeds a shore", "InvalidIsle('a', 'needs')"),
                (head + "\nsleep a dark dark", "InvalidIsle('a', 'sleep')"),
                (head + "\nwake a go go", "InvalidIsle('a', 'wake')"),
                (head + "\nturn a sleep 0 0", "InvalidIsle('a', 'turns')"),
                (head + "\nturn a sleep 1 1\nturn a sleep 1 1", "InvalidIsle('a', 'turns')"),
                (head + "\nneeds a a\nwire x a a", "InvalidIsle('a', 'needs')"),
                (head + "\nwire x a a\nclamp x a shore 0", "InvalidStation('owner')"),
                (head + "\nwire x a a\nhold x a a a a", "InvalidStation('line')"),
                (head + "\nwire x a a\nwire y a b\nclamp y a shore 0", "InvalidWire('x', 'reader')"),
                (head + "\nwire x a b\nwire y shore shore", "InvalidWire('y', 'reader')"),
                (head + "\nisle a 1 1", "InvalidChip('isles', 'a')"),
                (head + "\nwire x a b\nwire x b a", "InvalidChip('wires', 'x')"),
                (head + "\nneeds a c", "InvalidChip('needs', 'a')"),
                (head + "\nwire x a b\nclamp x a b 1 c", "InvalidChip('line', 'x')"),
                ("\n".join(["shore 1"] + [f"isle {letter} 1 1" for letter in "abcdefghi"]), "InvalidChip('isles', None)"),
                ("\n".join([head] + ["wire x a b"] * 25), "InvalidChip('wires', None)")):
            self.assertEqual(raised(Chip.read, text), told)


class PlainTest(unittest.TestCase):

    WORDS = ["a", "b", "shore", "abcdefgh", "abcdefghi", "A", "", "0", "1", "3", "4", "9", "10", "-1", "still", "lit",
             "sleep", "wake", "a1"]

    def line(self, dice, first, same):
        """The words of a line of a form, some of them any words, for a group of this name."""
        slots, tail, least, most = FORMS.get(first, (("same", "name"), "name", 0, 6))
        words = [first]
        for kind in [*slots, *[tail for _ in range(dice.randint(max(least - 1, 0), most + 1))]]:
            word = same if kind == "same" else dice.choice(CHOICES.get(kind, ("a", "b", "shore", "abcdefgh")))
            words.append(word if dice.random() < 0.9 else dice.choice(self.WORDS))
        return words

    def groups(self):
        """Yields what may stand ahead of a line: groups of lines, as lists of words."""
        text = "shore 1\nisle a 1 1\nleash a b\nneeds a b\nrests a\nsleep a still\nwake a lit\n" + "turn a sleep 1 0\n" * 6
        text += "isle b 1 1\nwire a a b\n" + "pass a b\n" * 5 + "wire b a b"
        groups = []
        for line in text.split("\n"):
            words = line.split(" ")
            if words[0] in ("shore", "isle", "wire"):
                groups.append([])
            groups[-1].append(words)
            yield [list(group) for group in groups]

    def test_what_is_plainly_right_is_right(self):
        dice = random.Random(0)
        count = {True: 0, False: 0}
        plain = {first: 0 for first in FORMS}
        for groups in self.groups():
            for first in [*FORMS, "", "a", "wires"]:
                for _ in range(200):
                    words = self.line(dice, first, groups[-1][0][1])
                    kept = [list(words), [list(group) for group in groups]]
                    wrong = _wrong_word(words, groups)
                    if _is_plain(words, groups[-1], {}):
                        self.assertIsNone(wrong, (words, groups))
                        plain[first] += 1
                    self.assertEqual([words, groups], kept)
                    count[wrong is None] += 1
        self.assertTrue(min(count.values()) > 500, count)
        self.assertEqual([first for first in plain if plain[first] < 5], ["shore"])

    def test_words_that_are_known(self):
        groups = [[["shore", "1"]], [["wire", "a", "a", "b"]]]
        known = {}
        self.assertIs(_is_plain(["hold", "a", "c", "b", "d"], groups[1], known), True)
        self.assertEqual(sorted(known), ["b", "c", "d"])
        self.assertIs(_is_plain(["hold", "a", "c", "B", "d"], groups[1], known), False)
        self.assertEqual(sorted(known), ["b", "c", "d"])


if __name__ == "__main__":
    unittest.main()
