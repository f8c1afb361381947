"""[15] to [17], duskisles/tables.py: rows, what comes behind them, and least tables."""

import random
import unittest

import oraclecones
import oracletables
from duskisles.chips import Chip
from duskisles.errors import NoQuestion, NotSafe, TooMany
from duskisles.isles import Isle
from duskisles.judge import judged
from duskisles.stations import Clamp, Holding, Pass
from duskisles.tables import first_row, is_bad, least_table, next_rows, rows_by_steps
from duskisles.wires import Wire
from made import made_chip
from test_cones import WRONG
from values import copied, error_of

X = ("wire", "x")
A = ("isle", "a")
CLEAN = ("clean", "clean", "same")


def up(*flags):
    return ("up", 0, *flags)


def small_questions(seeds, most, **kinds):
    """Yields chips and questions with at most so many rows that come, told by the second telling."""
    for seed in seeds:
        dice = random.Random(seed)
        chip = made_chip(dice, 3, 3, **kinds)
        for question in chip.questions:
            if len(list(zip(range(most + 1), rows_by_steps(chip, question)))) <= most:
                yield dice, chip, question


def any_row(dice, chip, question, stands):
    """Any row of a question, made of these stands of its isles."""
    rows = tuple(dice.choice(stands[name]) for name in oraclecones.cone(chip, question))
    whole = oraclecones.full(chip, question)
    marks = ()
    if whole is not None:
        isle = chip[whole]
        marks = (dice.choice(["clean", "older", "dust"]) if isle.kept else "clean", dice.choice(["clean", "dust"]) if isle.plain else "clean",
                 dice.choice(["same", "older", "dust"]) if isle.kept else "same")
    shut = dict(zip(oraclecones.cone(chip, question), [stand[3] for stand in rows]))
    owners = [chip.wire(name).stations[index].owner for name, index in oracletables.held_places(chip, question)]
    return rows, marks, tuple(dice.choice(["clean", "older", "dust"]) if shut[owner] else "open" for owner in owners)


class RowsTest(unittest.TestCase):

    def test_first_rows(self):
        chip = Chip(Isle("a", kept=0, leash=("b",)), Isle("b"), Isle("c"), wires=(
            Wire("x", "a", "c", Holding("shore", "b"), Pass("shore"), Holding("c", "c")), Wire("y", "shore", "c", Holding("shore", "b")),
            Wire("z", "shore", "c")))
        self.assertEqual(first_row(chip, A), ((up(True, False, False), up(None, None, False)), CLEAN, ()))
        self.assertEqual(first_row(chip, X), ((up(True, False, False), up(None, False, False), up(True, False, False)), CLEAN, ("open", "open")))
        self.assertEqual(first_row(chip, ("wire", "y")), ((up(None, False, None), up(True, None, None)), (), ("open",)))
        self.assertEqual(first_row(chip, ("wire", "z")), ((up(True, None, None),), (), ()))

    def test_a_row_that_is_its_own_next_row(self):
        chip = Chip(Isle("a", kept=0, sleeps=False))
        row = first_row(chip, A)
        self.assertEqual(next_rows(chip, A, row), (row,))
        chip = Chip(Isle("a", sleeps=False))
        older = (first_row(chip, A)[0], ("clean", "clean", "older"), ())
        self.assertEqual((next_rows(chip, A, first_row(chip, A)), next_rows(chip, A, older)), ((older,), (older,)))
        self.assertEqual(next_rows(chip, A, (older[0], ("dust", "dust", "dust"), ())), ((older[0], ("dust", "dust", "dust"), ()),))
        self.assertEqual(least_table(chip, A), (older, first_row(chip, A)))

    def test_rows_without_a_full_isle(self):
        chip = Chip(Isle("a"), wires=(Wire("x", "shore", "a", Clamp("a", "a")),))
        self.assertEqual(next_rows(chip, X, first_row(chip, X)), ((((("falling", 1, False, False, False),)), (), ()),))
        self.assertEqual(len(least_table(chip, X)), 6)

    def test_next_rows_of_rows_that_do_not_come(self):
        chip = Chip(Isle("a", leash=("b",)), Isle("b"))
        dark = ((up(True, False, False), ("asleep", 0, None, None, True)), CLEAN, ())
        self.assertTrue(is_bad(chip, A, dark))
        self.assertEqual(next_rows(chip, A, dark), (
            ((("falling", 1, False, False, False), dark[0][1]), ("dust",) * 3, ()),
            ((up(True, False, False), ("asleep", 0, None, None, True)), ("dust",) * 3, ()),
            ((up(True, False, False), ("waking", 1, None, None, False)), CLEAN, ())))
        still = ((("falling", 1, False, False, False), dark[0][1]), ("older", "clean", "older"), ())
        self.assertFalse(is_bad(chip, A, still))
        self.assertEqual([row[1] for row in next_rows(chip, A, still)], [("older", "clean", "older"), ("dust",) * 3])

    def test_needs_within_the_cone(self):
        chip = Chip(Isle("a", needs=("b",)), Isle("b"))
        row = first_row(chip, A)
        self.assertEqual([each[0][1] for each in next_rows(chip, A, row)], [row[0][1]] * 2)
        asleep = ((("asleep", 0, False, True, True), row[0][1]), ("dust", "dust", "same"), ())
        self.assertEqual([each[0][0][0] + " " + each[0][1][0] for each in next_rows(chip, A, asleep)], ["asleep falling", "waking up"])
        both = ((asleep[0][0], ("falling", 1, None, None, None)), asleep[1], ())
        self.assertEqual([each[0][0][0] + " " + each[0][1][0] for each in next_rows(chip, A, both)], ["asleep asleep"])
        self.assertEqual(len(next_rows(chip, ("isle", "b"), first_row(chip, ("isle", "b")))), 2)

    def test_isles_outside_the_cone_do_not_hinder(self):
        chip = Chip(Isle("a"), Isle("b", needs=("a",)))
        self.assertEqual([row[0][0][0] for row in next_rows(chip, A, first_row(chip, A))], ["falling", "up"])
        self.assertEqual(len(least_table(chip, A)), len(least_table(Chip(Isle("a")), A)))
        awake = chip.with_isles(Isle("b", needs=("a",), sleeps=False))
        self.assertEqual([row[0][0][0] for row in next_rows(awake, A, first_row(awake, A))], ["up"])
        self.assertEqual(len(least_table(awake, A)), 2)

    def test_sleepless_isles(self):
        chip = Chip(Isle("a", needs=("b",)), Isle("b", needs=("a",)), Isle("c"), wires=(Wire("x", "c", "a", Pass("b"), Clamp("c", "a")),))
        table = least_table(chip.with_wires(Wire("x", "shore", "a", Pass("b"), Clamp("shore", "a"))), X)
        self.assertEqual(table, (((up(True, False, None), up(None, None, False)), (), ()),))
        self.assertEqual(judged(chip, X)[0], "bad")

    def test_against_a_second_telling_of_the_document(self):
        many = 0
        for dice, chip, question in small_questions(range(70), 150, turns=2, whole=0.3):
            rows = oracletables.rows_by_steps(chip, question)
            many += 1
            self.assertEqual(first_row(chip, question), rows[0])
            self.assertEqual(list(rows_by_steps(chip, question)), rows)
            bad = [row for row in rows if oracletables.is_bad(chip, question, row)]
            self.assertEqual([row for row in rows if is_bad(chip, question, row)], bad)
            if bad:
                self.assertIsInstance(error_of(least_table, chip, question), NotSafe)
            else:
                self.assertEqual(least_table(chip, question), tuple(sorted(rows)))
            for row in bad[:3]:
                self.assertEqual(next_rows(chip, question, row), oracletables.next_rows(chip, question, row))
        self.assertGreater(many, 200)

    def test_any_rows_against_a_second_telling(self):
        for seed in range(40):
            dice = random.Random(seed)
            chip = made_chip(dice, 3, 3, turns=1, leash=2)
            for question in chip.questions:
                stands = {name: oraclecones.stands(chip, question, name) for name in oraclecones.cone(chip, question)}
                for _ in range(6):
                    row = any_row(dice, chip, question, stands)
                    kept = copied(row)
                    self.assertEqual(next_rows(chip, question, row), oracletables.next_rows(chip, question, row), (seed, question, row))
                    self.assertEqual(is_bad(chip, question, row), oracletables.is_bad(chip, question, row))
                    self.assertEqual(row, kept)

    def test_rows_by_steps_by_turns(self):
        chip = Chip(Isle("a"), Isle("b"))
        one, two = rows_by_steps(chip, A), rows_by_steps(chip, ("isle", "b"))
        pairs = [(next(one), next(two)) for _ in range(5)]
        self.assertTrue(all(first == second for first, second in pairs))
        self.assertEqual(list(one), list(two))
        self.assertEqual(next(rows_by_steps(chip, A)), first_row(chip, A))

    def test_values_that_are_no_questions(self):
        chip = Chip(Isle("a"), wires=(Wire("x", "a", "shore"),))
        row = first_row(chip, A)
        works = [first_row, lambda *values: next_rows(*values, row), lambda *values: is_bad(*values, row),
                 lambda *values: next(rows_by_steps(*values)), least_table, lambda *values: least_table(*values, most=1)]
        for work in works:
            for value in WRONG:
                error = error_of(work, chip, value)
                self.assertIsInstance(error, NoQuestion)
                self.assertIs(error.value, value)


class LeastTableTest(unittest.TestCase):

    def test_most(self):
        chip = Chip(Isle("a"))
        table = least_table(chip, A)
        self.assertEqual(len(table), 12)
        self.assertEqual(least_table(chip, A, most=12), table)
        for most in (1, 5, 11):
            error = error_of(least_table, chip, A, most=most)
            self.assertIsInstance(error, TooMany)
            self.assertEqual(error.most, most)
        rest = Chip(Isle("a", kept=0, sleeps=False))
        self.assertEqual(len(least_table(rest, A, most=1)), 1)

    def test_too_many_ahead_of_not_safe(self):
        chip = Chip(Isle("a", plain=0, sleep=("save", "still"), wake=("back", "go")))
        count = len(list(rows_by_steps(chip, A)))
        error = error_of(least_table, chip, A, most=count)
        self.assertIsInstance(error, NotSafe)
        self.assertEqual((error.question, ("bad", error.steps)), (A, judged(chip, A)))
        self.assertIsInstance(error_of(least_table, chip, A, most=count - 1), TooMany)

    def test_it_is_a_table(self):
        for dice, chip, question in small_questions(range(20), 60):
            if judged(chip, question)[0] == "safe":
                table = least_table(chip, question)
                self.assertEqual(table, tuple(sorted(set(table))))
                self.assertIn(first_row(chip, question), table)
                self.assertTrue(all(other in table for row in table for other in next_rows(chip, question, row)))
                self.assertFalse(any(is_bad(chip, question, row) for row in table))


if __name__ == "__main__":
    unittest.main()
