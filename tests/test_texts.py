"""[24], [25], duskisles/texts.py: texts of chips and of runs. (test_chiptexts.py has what Chip.read and str(chip) tell.)"""

import random
import unittest

from duskisles.chips import Chip
from duskisles.errors import InvalidText
from duskisles.isles import Isle
from duskisles.texts import read_chip, read_events, write_chip, write_events
from made import made_chip, made_run
from test_chiptexts import FULL, full_chip
from values import ANY, error_of, raised

WORDS = ["shore", "isle", "leash", "needs", "rests", "sleep", "wake", "turn", "wire", "pass", "clamp", "hold", "a", "b", "x", "0", "1", "2", "3", "4", "",
         "still", "dark", "lit", "go", "abcdefghi", "A", "00", "-1"]
ROWS = {"sleep": ("still", "shut", "save", "dark"), "wake": ("lit", "reset", "back", "open", "go")}


def is_name(word):
    return 1 <= len(word) <= 8 and set(word) <= set("abcdefghijklmnopqrstuvwxyz")


def is_own(word):
    return is_name(word) and word != "shore"


def forms(owner, depth):
    """All lines that can stand behind those ahead, as (first word, lists of what each next word must be, least number of words)."""
    def digit(word):
        return word in list("0123456789")

    def name(word):
        return is_name(word)

    def own(word):
        return is_own(word)

    def amount(word):
        return word in list("0123")

    def same(word):
        return word == owner

    isle = ("isle", [own, amount, amount], 4)
    wire = ("wire", [own, name, name], 4)
    below = [("leash", [same] + [name] * 4, 3), ("needs", [same] + [name] * 7, 3), ("rests", [same], 2),
             ("sleep", [same] + [lambda word: word in ROWS["sleep"]] * 4, 3), ("wake", [same] + [lambda word: word in ROWS["wake"]] * 5, 3),
             ("turn", [same, lambda word: word in ROWS, digit, digit], 5)]
    stations = [("pass", [same, name], 3), ("clamp", [same, name, name, lambda word: word in ("0", "1")] + [name] * 4, 5),
                ("hold", [same, name, name] + [name] * 4, 4)]
    if depth == "begin":
        return [("shore", [lambda word: word in ("1", "2", "3")], 2)]
    if depth == "shore":
        return [isle]
    kind, count = depth
    if kind in ("wire", "station"):
        return [wire] + (stations if count < 5 else [])
    order = ["isle", "leash", "needs", "rests", "sleep", "wake", "turn"]
    return [isle, wire] + [form for form in below if order.index(form[0]) > order.index(kind) or (form[0] == "turn" == kind and count < 6)]


def depth_behind(depth, word):
    """Where reading stands behind a line with this first word."""
    if word in ("pass", "clamp", "hold"):
        return "station", depth[1] + 1 if depth[0] == "station" else 1
    if word == "turn":
        return "turn", depth[1] + 1 if depth[0] == "turn" else 1
    return "shore" if word == "shore" else (word, 0)


def wrong_place(text):
    """(row, word) at which a text is wrong in form, or None, told a second time: line by line, all lines that could stand there."""
    owner, depth = None, "begin"
    lines = text.split("\n")
    for row, line in enumerate(lines):
        words = line.split(" ")
        best = 0
        for first, kinds, least in forms(owner, depth):
            count = 0
            for index, word in enumerate(words):
                fits = word == first if index == 0 else index - 1 < len(kinds) and kinds[index - 1](word)
                if not fits:
                    break
                count = index + 1
            if count == len(words) and count >= least:
                best = None
                break
            best = max(best, count)
        if best is not None:
            return row, best
        depth = depth_behind(depth, words[0])
        owner = words[1] if words[0] in ("isle", "wire") else owner
    return (len(lines), 0) if depth == "shore" else None


class ChipTextsTest(unittest.TestCase):

    def test_chips_by_chance(self):
        for seed in range(400):
            chip = made_chip(random.Random(seed), 5, 5, turns=6, needs=4, leash=4)
            text = write_chip(chip)
            self.assertEqual((text, read_chip(text)), (str(chip), chip))
            self.assertEqual(write_chip(read_chip(text)), text)
            self.assertIsNone(wrong_place(text))

    def test_the_whole_text(self):
        self.assertEqual((write_chip(full_chip()), read_chip(FULL), read_chip(text=FULL)), (FULL, full_chip(), full_chip()))
        self.assertEqual(write_chip(chip=Chip(Isle("a"))), "shore 1\nisle a 1 1")

    def test_isles_and_wires_in_other_orders(self):
        for seed in range(100):
            dice = random.Random(seed)
            chip = made_chip(dice, 4, 4, turns=2)
            isles, wires = [chip[name] for name in chip.names], [chip.wire(name) for name in chip.wires]
            head, *blocks = write_chip(chip).replace("\nisle", "\n\nisle").replace("\nwire", "\n\nwire").split("\n\n")
            rows, others = blocks[:len(isles)], blocks[len(isles):]
            dice.shuffle(rows)
            dice.shuffle(others)
            self.assertEqual(read_chip("\n".join([head, *rows, *others])), Chip.of(isles, wires, chip.shore))

    def test_one_thing_wrong_by_chance(self):
        answers = {True: 0, False: 0}
        for seed in range(2500):
            dice = random.Random(seed)
            lines = (FULL if seed % 3 else write_chip(made_chip(dice, 3, 3, turns=3, needs=2, leash=2))).split("\n")
            at = dice.randrange(len(lines))
            words = lines[at].split(" ")
            choice = dice.randint(0, 5)
            place = dice.randrange(len(words))
            if choice == 0:
                words[place] = dice.choice(WORDS)
            elif choice == 1:
                words.insert(dice.randint(0, len(words)), dice.choice(WORDS))
            elif choice == 2:
                del words[place]
            lines[at] = " ".join(words)
            if choice == 3:
                del lines[at]
            elif choice == 4:
                lines.insert(dice.randint(0, len(lines)), dice.choice(lines))
            elif choice == 5:
                other = dice.randrange(len(lines))
                lines[at], lines[other] = lines[other], lines[at]
            text = "\n".join(lines)
            place = wrong_place(text)
            told = error_and_class(text)
            self.assertEqual(told[1] if told[0] is InvalidText else None, place, text)
            answers[place is None] += 1
        self.assertTrue(min(answers.values()) > 300, answers)

    def test_form_ahead_of_the_classes(self):
        # The isle and the wires ahead are wrong in themselves, but only behind the form of all lines.
        for line, place in (("isle", (4, 0)), ("wire", (4, 1)), ("pass y a", (4, 1)), ("", (4, 0)), ("hold x a a a a", None)):
            text = "shore 1\nisle a 0 0\nisle a 1 1\nwire x a a\n" + line
            self.assertEqual(wrong_place(text), place)
            self.assertEqual(error_and_class(text)[1] if place else raised(read_chip, text), place or "InvalidIsle('a', 'registers')")

    def test_values_that_are_no_texts(self):
        for value in ANY:
            error = error_of(read_chip, value)
            self.assertEqual((type(error), error.row, error.word), (InvalidText, 0, 1 if value == "shore" else 0))
        self.assertEqual(raised(read_chip, "shore 1"), "InvalidText(1, 0)")
        self.assertEqual(raised(read_chip, "shore 1\nisle a 1 4"), "InvalidText(1, 3)")


def error_and_class(text):
    try:
        read_chip(text)
    except InvalidText as error:
        return InvalidText, (error.row, error.word)
    except Exception as error:
        return type(error), None
    return None, None


class RunTextsTest(unittest.TestCase):

    def test_runs_by_chance(self):
        for seed in range(100):
            dice = random.Random(seed)
            run = made_run(dice, made_chip(dice, 4, 2, turns=6), 15)
            self.assertEqual(read_events(write_events(run)), run)
            self.assertEqual(write_events(tuple(run)), write_events(run))

    def test_words(self):
        run = [("deed", "a"), ("turn", "a", 0), ("turn", "abcdefgh", 5), ("tick", "b"), ("tick", "shore"), ("deed", "shores"), ("deed", "z")]
        self.assertEqual((write_events(run), read_events("a a/0 abcdefgh/5 b+ shore+ shores z")), ("a a/0 abcdefgh/5 b+ shore+ shores z", run))
        self.assertEqual((write_events([]), write_events(()), read_events("-"), read_events(text="a")), ("-", "-", [], [("deed", "a")]))

    def test_lists_belong_to_the_caller(self):
        read_events("-").append(1)
        self.assertEqual(read_events("-"), [])

    def test_wrong_words(self):
        for text, word in (("", 0), (" ", 0), ("a ", 1), (" a", 0), ("a  b", 1), ("- a", 1), ("- ", 1), ("- -", 1), ("a -", 1), ("--", 0), ("shore", 0),
                           ("a shore", 1), ("a/6", 0), ("a/", 0), ("a/00", 0), ("a/0/1", 0), ("a//0", 0), ("shore/0", 0), ("/0", 0), ("+", 0), ("a++", 0),
                           ("a+ +", 1), ("a+b", 0), ("A", 0), ("a1", 0), ("abcdefghi", 0), ("abcdefghi+", 0), ("abcdefghi/0", 0), ("a/-1", 0), ("a+/0", 0),
                           ("a/0+", 0), ("a\nb", 0), ("a b\n", 1), ("\n", 0), ("-\n", 0), ("a b c d/9 e/9", 3), ("a\t", 0)):
            error = error_of(read_events, text)
            self.assertEqual((type(error), error.row, error.word), (InvalidText, 0, word), text)

    def test_other_values(self):
        for value in ANY:
            if not isinstance(value, str):
                error = error_of(read_events, value)
                self.assertEqual((type(error), error.row, error.word), (InvalidText, 0, 0))
        for value in ANY:
            if isinstance(value, str) and value not in ("a", "b", "abcdefgh", "-", "a b"):
                self.assertIsInstance(error_of(read_events, value), InvalidText)


if __name__ == "__main__":
    unittest.main()
