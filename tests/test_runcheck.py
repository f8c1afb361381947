"""[6] to [12], duskisles/runcheck.py: runs that are shown to somebody who does not trust them."""

import random
import unittest

import oracle
from duskisles.chips import Chip
from duskisles.errors import NoQuestion
from duskisles.isles import Isle
from duskisles.judge import judged
from duskisles.runcheck import lets_run
from duskisles.stations import Pass
from duskisles.wires import Wire
from made import made_chip, made_run
from test_cones import WRONG
from values import ANY, copied, error_of

X = ("wire", "x")
A = ("isle", "a")
CHIP = Chip(Isle("a", plain=0, sleep=("save", "still"), wake=("back", "go"), turns=(("sleep", 1, 1),)), Isle("b", needs=("a",)),
            wires=(Wire("x", "a", "b", Pass("b")),))
RUN = [("deed", "b")] * 4 + [("deed", "a"), ("tick", "a"), ("deed", "a"), ("deed", "a"), ("deed", "a")]


class RunsTest(unittest.TestCase):

    def test_right_runs(self):
        self.assertIs(lets_run(CHIP, A, RUN), True)
        self.assertIs(lets_run(CHIP, A, [("tick", "shore"), *RUN]), True)
        self.assertIs(lets_run(CHIP, A, [("tick", "b"), *RUN[:5], ("turn", "a", 0), ("deed", "a"), *RUN[4:]]), True)

    def test_for_another_question(self):
        self.assertIs(lets_run(CHIP, X, RUN), False)
        self.assertIs(lets_run(CHIP, ("isle", "b"), RUN), False)

    def test_cut_and_lengthened(self):
        for count in range(len(RUN)):
            self.assertIs(lets_run(CHIP, A, RUN[:count]), False, count)
            self.assertIs(lets_run(CHIP, A, RUN[count + 1:]), False, count)
        self.assertIs(lets_run(CHIP, A, RUN + [("tick", "shore")]), False)
        self.assertIs(lets_run(CHIP, A, []), False)

    def test_events_that_cannot_come_or_are_none(self):
        for at in range(len(RUN)):
            for event in (("deed", "z"), None, ("turn", "a", True), ["deed", "a"], ("tick", "a", 0), ("turn", "a", 1)):
                self.assertIs(lets_run(CHIP, A, RUN[:at] + [event] + RUN[at:]), False)
        self.assertIs(lets_run(CHIP, A, RUN[4:]), False)
        self.assertIs(lets_run(CHIP, A, RUN[:7] + [("tick", "a")] + RUN[7:]), False)
        self.assertIs(lets_run(CHIP, A, RUN[:5] + [("turn", "a", False)] + RUN[5:]), False)
        self.assertIs(lets_run(CHIP, A, RUN[:6] + [("turn", "a", 0), ("deed", "a")] + RUN[6:]), False)

    def test_tuples_and_other_values(self):
        self.assertIs(lets_run(CHIP, A, tuple(RUN)), False)
        self.assertIs(lets_run(CHIP, A, [list(event) for event in RUN]), False)
        self.assertIs(lets_run(CHIP, A, {event: True for event in RUN}), False)
        for value in ANY + ["b b b b a a+ a a a", [RUN], (RUN,), [RUN[0], RUN]]:
            self.assertIs(lets_run(CHIP, A, value), False)

    def test_the_thing_is_not_modified(self):
        kept = copied(RUN)
        lets_run(CHIP, A, RUN)
        self.assertEqual(RUN, kept)

    def test_a_long_run(self):
        self.assertIs(lets_run(CHIP, A, [("tick", "shore")] * 5000 + RUN), True)

    def test_no_questions_first(self):
        for value in WRONG:
            for thing in (RUN, None):
                error = error_of(lets_run, CHIP, value, thing)
                self.assertIsInstance(error, NoQuestion)
                self.assertIs(error.value, value)

    def test_runs_by_chance(self):
        right = 0
        for seed in range(200):
            dice = random.Random(seed)
            chip = made_chip(dice, 3, 3)
            run, state, question = made_run(dice, chip, 20), oracle.first(chip), dice.choice(chip.questions)
            bad = []
            for event in run:
                state = oracle.step(chip, state, event)
                bad.append(oracle.is_bad(chip, state, question))
            for count in range(21):
                told = count > 0 and bad[count - 1] and not any(bad[:count - 1])
                self.assertIs(lets_run(chip, question, run[:count]), told)
                right += told
            answer = judged(chip, question)
            self.assertIs(lets_run(chip, question, answer[1]), answer[0] == "bad")
        self.assertGreater(right, 30)


if __name__ == "__main__":
    unittest.main()
