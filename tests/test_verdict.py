"""[6] to [17], duskisles/verdict.py: what is told of a whole chip."""

import random
import unittest

import oracle
import oraclepapers
from bent import bent
from duskisles.chips import Chip
from duskisles.errors import TooMany
from duskisles.isles import Isle
from duskisles.judge import judged
from duskisles.machines import parted
from duskisles.runcheck import lets_run
from duskisles.stations import Clamp
from duskisles.tables import least_table, rows_by_steps
from duskisles.verdict import is_safe, lets_verdict, verdict
from duskisles.wires import Wire
from made import made_chip
from test_judge import chips_of_one_isle, chips_with_a_station, first_bad, small_chips
from values import ANY, copied, error_of

HASTY = Isle("a", plain=0, sleep=("save", "still"), wake=("back", "go"))
SAFE = Chip(Isle("a"), Isle("b"), wires=(Wire("x", "a", "b", Clamp("b", "a")),))


class VerdictTest(unittest.TestCase):

    def search(self, chip, states, answers):
        """Compares a verdict with all states."""
        bad = [question for question in chip.questions if any(oracle.is_bad(chip, state, question) for state in states)]
        found = verdict(chip)
        answers[found[0]] += 1
        self.assertIs(is_safe(chip), not bad)
        self.assertIs(lets_verdict(chip, found), True)
        if not bad:
            self.assertEqual(found, ("safe", tuple((question, least_table(chip, question)) for question in chip.questions)))
        else:
            word, question, events = found
            self.assertEqual((word, question), ("bad", bad[0]))
            self.assertEqual(first_bad(chip, question, events), len(events))
            self.assertEqual(events, judged(chip, question)[1])
            self.assertEqual(parted(chip, events)[0], 1 + [bool(oracle.bad(chip, state)) for state in
                                                           oraclepapers.states_of(chip, events)[1:]].index(True))

    def test_all_chips_of_two_kinds_against_a_search_through_all_states(self):
        answers = {"safe": 0, "bad": 0}
        for chip in [*chips_of_one_isle(), *chips_with_a_station()]:
            self.search(chip, oracle.every_state(chip), answers)
        self.assertTrue(min(answers.values()) > 15, answers)

    def test_chips_by_chance_against_a_search_through_all_states(self):
        answers = {"safe": 0, "bad": 0}
        for chip, states in small_chips(range(150), turns=1):
            self.search(chip, states, answers)
        self.assertTrue(min(answers.values()) > 30, answers)

    def test_the_first_bad_question(self):
        chip = Chip(Isle("b", **{"sleep": ("dark",), "wake": ("lit",)}), HASTY, Isle("c"), wires=(Wire("x", "c", "shore"),))
        self.assertEqual(verdict(chip)[:2], ("bad", ("isle", "a")))
        self.assertEqual(verdict(chip.with_isles(Isle("a")))[:2], ("bad", ("isle", "b")))
        self.assertEqual(verdict(chip.with_isles(Isle("a"), Isle("b")))[:2], ("bad", ("wire", "x")))
        self.assertIs(is_safe(chip.with_isles(Isle("a"), Isle("b")).without_wires("x")), True)

    def test_lists_belong_to_the_caller(self):
        chip = Chip(HASTY)
        verdict(chip)[2].clear()
        self.assertNotEqual(verdict(chip)[2], [])

    def test_too_many(self):
        counts = [len(list(rows_by_steps(SAFE, question))) for question in SAFE.questions]
        for work in (verdict, is_safe):
            for most in (max(counts), max(counts) + 1, 10 ** 30):
                self.assertEqual(work(SAFE, most=most), work(SAFE))
            for most in (1, max(counts) - 1):
                error = error_of(work, SAFE, most=most)
                self.assertIsInstance(error, TooMany)
                self.assertEqual(error.most, most)

    def test_too_many_only_for_questions_for_which_it_comes_to_it(self):
        chip = Chip(HASTY, Isle("b"))
        count = len(list(rows_by_steps(chip, ("isle", "a"))))
        self.assertLess(count, len(list(rows_by_steps(chip, ("isle", "b")))))
        self.assertEqual(verdict(chip, most=count), verdict(chip))
        self.assertIs(is_safe(chip, most=count), False)
        for work in (verdict, is_safe):
            self.assertIsInstance(error_of(work, chip, most=count - 1), TooMany)
            self.assertIsInstance(error_of(work, chip.with_isles(Isle("a")), most=count), TooMany)


class LetsVerdictTest(unittest.TestCase):

    def test_any_question_and_any_run(self):
        chip = Chip(HASTY, Isle("b"), wires=(Wire("x", "a", "b"), Wire("y", "b", "shore")))
        events = judged(chip, ("isle", "a"))[1]
        for question in chip.questions:
            word, found = judged(chip, question)
            self.assertIs(lets_verdict(chip, ("bad", question, found)), word == "bad")
            self.assertIs(lets_verdict(chip, ("bad", question, [("tick", "shore")] + events)), lets_run(chip, question, events))
            if word == "bad":
                self.assertIs(lets_verdict(chip, ("bad", question, found[:-1])), False)
                self.assertIs(lets_verdict(chip, ("bad", question, found + [("tick", "shore")])), False)
                self.assertIs(lets_verdict(chip, ("bad", question, tuple(found))), False)
                self.assertIs(lets_verdict(chip, ["bad", question, found]), False)
                self.assertIs(lets_verdict(chip, ("bad", list(question), found)), False)

    def test_foreign_questions(self):
        chip = Chip(HASTY)
        events = verdict(chip)[2]
        for question in (("isle", "b"), ("wire", "a"), None, "isle a", ("isle",), ("isle", "a", 0), ["isle", "a"]):
            self.assertIs(lets_verdict(chip, ("bad", question, events)), False)

    def test_tables_that_are_not_the_least(self):
        chip = Chip(Isle("a", sleeps=False))
        (question, table), = verdict(chip)[1]
        more = tuple(sorted([*table, (table[0][0], ("clean", "clean", "dust"), ())]))
        self.assertIs(lets_verdict(chip, ("safe", ((question, more),))), True)
        self.assertIs(lets_verdict(chip, ("safe", ((question, table[1:]),))), False)

    def test_questions_in_order(self):
        word, tables = verdict(SAFE)
        self.assertIs(lets_verdict(SAFE, (word, tables)), True)
        for wrong in (tables[1:], tables[:-1], tables + tables[-1:], tables[::-1], (tables[1], tables[0], tables[2]), list(tables),
                      tuple([list(pair) for pair in tables]), tuple([(*pair, 0) for pair in tables]), (), dict(tables),
                      tuple([table for _, table in tables])):
            self.assertIs(lets_verdict(SAFE, ("safe", wrong)), False)
        self.assertIs(lets_verdict(SAFE, ("bad", tables)), False)
        self.assertIs(lets_verdict(SAFE, (word, tables, [])), False)

    def test_bent_by_chance(self):
        answers = {True: 0, False: 0}
        for seed in range(60):
            dice = random.Random(seed)
            chip = made_chip(dice, 2, 2, whole=0.3)
            thing = verdict(chip)
            if sum(len(table) for _, table in thing[1]) > 40 if thing[0] == "safe" else False:
                continue
            for _ in range(25):
                wrong = bent(dice, thing)
                kept = copied(wrong)
                answer = lets_verdict(chip, wrong)
                self.assertIs(answer, oraclepapers.is_verdict(chip, wrong), (str(chip), wrong))
                self.assertEqual(wrong, kept)
                answers[answer] += 1
        self.assertTrue(answers[False] > 500, answers)

    def test_any_values(self):
        for chip in (SAFE, Chip(HASTY)):
            for value in ANY + [("safe",), ("bad",), ("safe", None), ("safe", ((),)), ("bad", None, None), ("safe", (None,) * 3),
                                ("bad", ("isle", "a"), []), ("bad", [], []), ("safe", ANY[-1])]:
                self.assertIs(lets_verdict(chip, value), False)
            for value in ANY:
                self.assertIs(lets_verdict(chip, ("safe", value)), False)
                self.assertIs(lets_verdict(chip, ("bad", ("isle", "a"), value)), False)
                self.assertIs(lets_verdict(chip, ("bad", value, [])), False)


if __name__ == "__main__":
    unittest.main()
