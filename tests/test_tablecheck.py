"""[15] to [17], duskisles/tablecheck.py: tables that are shown to somebody who does not trust them."""

import random
import unittest

import oraclecones
import oraclepapers
import oracletables
from bent import bent
from duskisles.chips import Chip
from duskisles.errors import NoQuestion
from duskisles.isles import Isle
from duskisles.judge import judged
from duskisles.stations import Clamp, Holding, Pass
from duskisles.tablecheck import lets_table
from duskisles.tables import least_table, rows_by_steps
from duskisles.wires import Wire
from made import made_chip
from test_cones import WRONG
from test_tables import any_row
from values import ANY, copied, error_of

A = ("isle", "a")
X = ("wire", "x")
SMALL = {"sleep": ("dark",), "wake": ("lit",)}
ALONE = Chip(Isle("a", sleeps=False))
UP = (("up", 0, True, False, False),)
ROWS = ((UP, ("clean", "clean", "older"), ()), (UP, ("clean", "clean", "same"), ()))


def small_tables(seeds, most=40, **kinds):
    """Yields chance, chip, question and least table of questions that are safe."""
    for seed in seeds:
        dice = random.Random(seed)
        chip = made_chip(dice, 3, 2, **kinds)
        for question in chip.questions:
            word, found = judged(chip, question)
            if word == "safe" and len(found) <= most:
                yield dice, chip, question, found


def closure(chip, question, rows):
    """The rows and all next rows, again and again."""
    found, ahead = set(), list(rows)
    while ahead:
        row = ahead.pop()
        if row not in found:
            found.add(row)
            ahead += oracletables.next_rows(chip, question, row)
    return tuple(sorted(found))


class TablesTest(unittest.TestCase):

    def test_least_tables(self):
        count = 0
        for _, chip, question, table in small_tables(range(100)):
            self.assertIs(lets_table(chip, question, table), True)
            self.assertTrue(oraclepapers.is_table(chip, question, table))
            count += 1
        self.assertGreater(count, 100)

    def test_of_a_question_that_is_bad(self):
        count = 0
        for seed in range(100):
            chip = made_chip(random.Random(seed), 3, 2)
            for question in chip.questions:
                if judged(chip, question)[0] == "bad":
                    rows = tuple(sorted(rows_by_steps(chip, question)))
                    self.assertIs(lets_table(chip, question, rows), False)
                    good = tuple(row for row in rows if not oracletables.is_bad(chip, question, row))
                    self.assertIs(lets_table(chip, question, good), False)
                    count += 1
        self.assertGreater(count, 50)

    def test_tables_that_are_not_the_least(self):
        answers = {True: 0, False: 0}
        for dice, chip, question, table in small_tables(range(100), 30):
            stands = {name: oraclecones.stands(chip, question, name) for name in oraclecones.cone(chip, question)}
            for _ in range(5):
                more = closure(chip, question, [*table, any_row(dice, chip, question, stands)])
                right = not any(oracletables.is_bad(chip, question, row) for row in more)
                self.assertIs(lets_table(chip, question, more), right)
                answers[right and more != table] += 1
        self.assertTrue(min(answers.values()) > 60, answers)

    def test_one_row_left_out_or_too_many(self):
        for dice, chip, question, table in small_tables(range(60), 20):
            for at in range(len(table)):
                self.assertIs(lets_table(chip, question, table[:at] + table[at + 1:]), False)
                self.assertIs(lets_table(chip, question, table[:at] + table[at:at + 1] + table[at:]), False)
            self.assertIs(lets_table(chip, question, table[::-1]), len(table) == 1)
            self.assertIs(lets_table(chip, question, list(table)), False)
            self.assertIs(lets_table(chip, question, {row: True for row in table}), False)
            stands = {name: oraclecones.stands(chip, question, name) for name in oraclecones.cone(chip, question)}
            more = tuple(sorted({*table, any_row(dice, chip, question, stands)}))
            self.assertIs(lets_table(chip, question, more), oraclepapers.is_table(chip, question, more))

    def test_bent_by_chance(self):
        answers = {True: 0, False: 0}
        for dice, chip, question, table in small_tables(range(80), 12):
            for _ in range(30):
                thing = bent(dice, table)
                kept = copied(thing)
                answer = lets_table(chip, question, thing)
                self.assertIs(answer, oraclepapers.is_table(chip, question, thing), (str(chip), question, thing))
                self.assertEqual(thing, kept)
                answers[answer] += 1
        self.assertTrue(answers[False] > 1000, answers)

    def test_kinds(self):
        self.assertIs(lets_table(ALONE, A, ROWS), True)
        for row in ((("up", False, True, False, False), ("clean", "clean", "older"), ()),
                    (("up", 0, 1, False, False), ("clean", "clean", "older"), ()), (("up", 0, True, 0, False), ("clean", "clean", "older"), ()),
                    (("up", 0, True, False, None), ("clean", "clean", "older"), ()), (list(UP[0]), ("clean", "clean", "older"), ()),
                    (UP[0], ["clean", "clean", "older"], ()), (UP[0], ("clean", "clean", "older"), []), (UP[0], ("clean", "clean", "older"), None),
                    (UP[0], ("clean", "clean", "older"), ("open",)), (UP[0], ("clean", "older", "older"), ()), (UP[0], ("clean", "clean"), ())):
            self.assertIs(lets_table(ALONE, A, (((row[0],), *row[1:]), ROWS[1])), False, row)
        self.assertIs(lets_table(ALONE, A, (([UP[0]], *ROWS[0][1:]), ROWS[1])), False)
        self.assertIs(lets_table(ALONE, A, (list(ROWS[0]), ROWS[1])), False)
        self.assertIs(lets_table(ALONE, A, ((UP * 2, *ROWS[0][1:]), ROWS[1])), False)

    def test_marks_that_the_isle_cannot_have(self):
        table = ((UP, ("clean", "clean", "same"), ()),)
        self.assertIs(lets_table(Chip(Isle("a", kept=0, sleeps=False)), A, table), True)
        self.assertIs(lets_table(Chip(Isle("a", kept=0, sleeps=False)), A, ROWS), False)
        self.assertIs(lets_table(Chip(Isle("a", plain=0, sleeps=False)), A, ROWS), True)
        self.assertIs(lets_table(ALONE, A, table), False)

    def test_rows_with_a_bad_moment(self):
        # The row is closed with the others, and only its mark is bad.
        for marks in (("dust", "clean", "older"), ("clean", "dust", "older"), ("older", "clean", "older")):
            rows = tuple(sorted([*ROWS, (UP, marks, ())]))
            self.assertIs(lets_table(ALONE, A, rows), False)
        dusty = (UP, ("clean", "clean", "dust"), ())
        self.assertIs(lets_table(ALONE, A, tuple(sorted([*ROWS, dusty]))), True)

    def test_held_marks(self):
        chip = Chip(Isle("a", kept=0, sleep=("still", "shut"), wake=("open", "go")), wires=(Wire("x", "a", "shore", Holding("shore", "a")),))
        table = least_table(chip, X)
        self.assertIs(lets_table(chip, X, table), True)
        for mark in ("clean", "older", "dust", None, 0, ["open"], True):
            wrong = tuple(sorted([(stands, marks, (mark,) if held == ("open",) else held) for stands, marks, held in table], key=repr))
            self.assertIs(lets_table(chip, X, wrong), False, mark)
        shut = [row for row in table if row[2] != ("open",)]
        self.assertEqual({row[2] for row in shut}, {("clean",)})
        for mark in ("open", "older", "dust"):
            wrong = tuple(sorted([(stands, marks, held if held == ("open",) else (mark,)) for stands, marks, held in table]))
            self.assertIs(lets_table(chip, X, wrong), False, mark)

    def test_wires_from_the_shore(self):
        chip = Chip(Isle("a"), wires=(Wire("x", "shore", "a", Clamp("shore", "a"), Pass("shore")),))
        table = least_table(chip, X)
        self.assertEqual({row[1:] for row in table}, {((), ())})
        self.assertIs(lets_table(chip, X, table), True)
        for marks in (("clean", "clean", "same"), None, [], ("clean",)):
            self.assertIs(lets_table(chip, X, tuple((stands, marks, held) for stands, _, held in table)), False)

    def test_stands_that_are_none_of_the_isle(self):
        chip = Chip(Isle("a"), Isle("b", sleep=("still", "dark"), wake=("go", "lit")), wires=(Wire("x", "a", "shore", Clamp("shore", "b")),))
        table = least_table(chip.with_isles(Isle("a", sleeps=False)), X)
        still = chip.with_isles(Isle("a", sleeps=False))
        self.assertIs(lets_table(still, X, table), True)
        for stand in (("falling", 1, None, False, None), ("asleep", 0, None, False, None), ("up", 0, True, False, None), ("up", 0, None, None, None)):
            rows = tuple((((stands[0], stand)), marks, held) for stands, marks, held in table)
            self.assertIs(lets_table(still, X, rows), False, stand)

    def test_any_values(self):
        for value in ANY + [(ROWS,), (None,), ((),), ((), ()), (((), (), ()),), ROWS[0]]:
            self.assertIs(lets_table(ALONE, A, value), False)

    def test_no_questions_first(self):
        for value in WRONG:
            for thing in (ROWS, None):
                error = error_of(lets_table, ALONE, value, thing)
                self.assertIsInstance(error, NoQuestion)
                self.assertIs(error.value, value)

    def test_a_large_table(self):
        chip = Chip(*[Isle(name) for name in "abcde"],
                    wires=(Wire("x", "a", "b", *[Clamp("shore", owner) for owner in "cdea"]),))
        table = least_table(chip, X)
        self.assertGreater(len(table), 300)
        self.assertIs(lets_table(chip, X, table), True)
        for at in (0, len(table) // 2, len(table) - 1):
            self.assertIs(lets_table(chip, X, table[:at] + table[at + 1:]), False)


if __name__ == "__main__":
    unittest.main()
