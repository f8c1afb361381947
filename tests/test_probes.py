"""[17], [19], duskisles/probes.py and what serves it: whether questions are bad, found without all rows that come."""

import itertools
import random
import unittest

from duskisles.chips import Chip
from duskisles.errors import TooMany
from duskisles.isles import Isle
from duskisles.judge import judged
from duskisles.markrows import MARK_ROW, mark_number, mark_table, marks_of
from duskisles.moves import marks_behind
from duskisles.orders import ordered
from duskisles.probes import Probe
from duskisles.stations import Clamp, Holding, Pass
from duskisles.wires import Wire
from made import made_chip

MOST = 3000
STILL = Isle("b", kept=0, sleep=("still",), wake=("go",))


def answer(chip, question):
    """Whether a question is bad, by all rows that come, or None if these are many."""
    try:
        return judged(chip, question, most=MOST)[0] == "bad"
    except TooMany:
        return None


class ProbesTest(unittest.TestCase):

    def compare(self, chips):
        answers = {True: 0, False: 0}
        for chip in chips:
            crews = {}
            for question in chip.questions:
                told = answer(chip, question)
                if told is not None:
                    self.assertIs(Probe(chip.plan(), question, crews).is_bad(), told, (str(chip), question))
                    answers[told] += 1
        return answers

    def test_chips_by_chance(self):
        for kinds in ({}, {"whole": 1, "turns": 0}, {"isles": 4, "needs": 2, "leash": 2},
                      {"whole": 1, "turns": 2, "needs": 2}, {"isles": 2, "turns": 4, "whole": 0}):
            dice = random.Random(repr(kinds))
            answers = self.compare([made_chip(dice, **kinds) for _ in range(250)])
            self.assertTrue(min(answers.values()) > 150, answers)

    def test_all_short_rows_of_an_isle_alone(self):
        rows = [row for count in (1, 2, 3) for row in itertools.permutations(("still", "dark", "save"), count)]
        wakes = [row for count in (1, 2, 3) for row in itertools.permutations(("lit", "back", "go"), count)]
        wire = (Wire("x", "a", "shore", Clamp("shore", "a")), Wire("y", "a", "b"))
        answers = self.compare([Chip(Isle("a", plain=0, sleep=sleep, wake=wake), STILL, wires=wire)
                                for sleep, wake in itertools.islice(itertools.product(rows, wakes), 0, None, 3)])
        self.assertTrue(min(answers.values()) > 50, answers)

    def test_leashes_in_rings(self):
        # What is dark by a ring of leashes stays so as long as one is away, and shadows are dust by it.
        for sleeps in (True, False):
            for kept in (0, 1):
                chip = Chip(Isle("a", kept=kept, leash=("b",)), Isle("b", leash=("a",), sleeps=sleeps),
                            wires=(Wire("x", "a", "b", Clamp("b", "a")),))
                self.compare([chip])

    def test_isles_that_only_needs_tie_together(self):
        # b and c say nothing but by their needs: a may wake only if c is up, over b.
        chain = (Isle("a", needs=("b",)), Isle("b", needs=("c",)), Isle("c", kept=0), Isle("d"))
        for stations in ((Pass("c"),), (Clamp("c", "a"),), (Clamp("d", "a", line=("c",)),), (Holding("c", "a"),),
                         (Holding("d", "c"), Pass("c"))):
            for ends in (("a", "d"), ("d", "a"), ("shore", "a")):
                self.compare([Chip(*chain, wires=(Wire("x", *ends, *stations),))])

    def test_the_first_row_may_be_bad_where_isles_are_left_out(self):
        # The place c may be dark while all else is as at first.
        chip = Chip(Isle("a"), Isle("b", needs=("a",)), Isle("c", sleep=("dark", "still"), wake=("go",)),
                    wires=(Wire("x", "a", "b", Pass("c")),))
        self.assertEqual([Probe(chip.plan(), question, {}).is_bad() for question in chip.questions],
                         [False, False, True, True])

    def test_other_orders(self):
        count = {True: 0, False: 0}
        for seed in range(60):
            dice = random.Random(seed)
            chip = made_chip(dice, 3, 2, turns=0, whole=0.5)
            name = dice.choice(chip.names)
            isle = chip[name]
            at = chip.names.index(name)
            probes = [(question, Probe(chip.plan(), question, {})) for question in chip.questions]
            for _ in range(6):
                order = (tuple(dice.sample(isle.sleep, len(isle.sleep))), tuple(dice.sample(isle.wake, len(isle.wake))))
                other = chip.with_isles(isle.changed(sleep=order[0], wake=order[1]))
                for question, probe in probes:
                    told = answer(other, question)
                    if told is not None:
                        self.assertIs(probe.is_bad_with(at, order), told, (str(other), question))
                        count[told] += 1
        self.assertTrue(min(count.values()) > 200, count)

    def test_words_that_do_not_matter(self):
        chip = Chip(Isle("a", kept=0), Isle("b"), Isle("c"), Isle("d", sleeps=False),
                    wires=(Wire("x", "a", "b", Clamp("c", "b")), Wire("y", "b", "shore")))
        told = {name: [set(Probe(chip.plan(), question, {}).words_of(index)) for question in chip.questions]
                for index, name in enumerate(chip.names)}
        away, clock, shut = {"dark", "lit"}, {"still", "go"}, {"shut", "open"}
        self.assertEqual(told["a"], [away | clock | {"reset"}, set(), set(), set(), away | {"reset"}, set()])
        every = away | clock | {"save", "back", "reset"}
        self.assertEqual(told["b"], [set(), every, set(), set(), clock | shut, every])
        self.assertEqual(told["c"], [set(), set(), away | clock | {"save", "back", "reset"}, set(), away, set()])
        self.assertEqual(told["d"], [set()] * 6)


class MarksTest(unittest.TestCase):

    def test_numbers_ascend_as_marks_do(self):
        every = itertools.product(("clean", "older", "dust"), ("clean", "dust"), ("same", "older", "dust"))
        self.assertEqual(list(MARK_ROW), sorted(every))
        self.assertEqual([mark_number(marks_of(number)) for number in range(18)], list(range(18)))

    def test_tables(self):
        for kept, plain in ((1, 1), (2, 0), (0, 3)):
            isle = Isle("a", kept=kept, plain=plain)
            able = [marks for marks in MARK_ROW
                    if (kept or (marks[0], marks[2]) == ("clean", "same")) and (plain or marks[1] == "clean")]
            for word, dim in itertools.product((None, "tick", *Isle.SLEEP, *Isle.WAKE), (0, 1, 2)):
                table = mark_table(isle, word, dim)
                for marks in able:
                    self.assertEqual(marks_of(table[mark_number(marks)]),
                                     marks_behind(isle, marks, word, dim > 0, dim == 2), (kept, plain, word, dim, marks))


class PlansTest(unittest.TestCase):

    def test_an_order_changes_nothing_in_the_chip(self):
        chip = Chip(Isle("a"), STILL, wires=(Wire("x", "a", "b", Clamp("b", "a")),))
        before = str(chip)
        probe = Probe(chip.plan(), ("isle", "a"), {})
        self.assertIs(probe.is_bad_with(0, (("dark", "still", "save", "shut"), Isle.WAKE)), True)
        self.assertIs(probe.is_bad_with(0, (Isle.SLEEP, Isle.WAKE)), False)
        self.assertEqual(str(chip), before)
        self.assertEqual(judged(ordered(chip, "a", (Isle.SLEEP, Isle.WAKE)), ("isle", "a")), judged(chip, ("isle", "a")))


if __name__ == "__main__":
    unittest.main()
