"""[2], [12], duskisles/weaves.py: runs that can be taken back."""

import random
import unittest

import oracle
from duskisles.chips import Chip
from duskisles.errors import InvalidEvent, NothingToUndo, NotNow
from duskisles.isles import Isle
from duskisles.weaves import Weave
from made import made_chip, made_run
from values import ANY, error_of, is_assigned, raised

CHIP = Chip(Isle("a", plain=0, sleep=("save", "still"), wake=("back", "go"), turns=(("sleep", 1, 1),)), Isle("b", needs=("a",)))
A, B, TICK = ("deed", "a"), ("deed", "b"), ("tick", "a")
DOWN = [B] * 4 + [A, TICK, A, A]


def facts(weave):
    return weave.events, weave.state, weave.moments, weave.first, len(weave), list(weave.states())


class WeaveTest(unittest.TestCase):

    def test_begin(self):
        weave = Weave(CHIP)
        self.assertEqual(facts(weave), ((), oracle.first(CHIP), (), None, 0, [oracle.first(CHIP)]))
        self.assertEqual(weave.chip, CHIP)

    def test_properties_are_not_assignable(self):
        weave = Weave(CHIP)
        for name in ("chip", "events", "state", "moments", "first"):
            self.assertFalse(is_assigned(weave, name), name)

    def test_do_returns_the_state(self):
        weave = Weave(CHIP)
        self.assertEqual(weave.do(), oracle.first(CHIP))
        self.assertEqual(weave.do(("tick", "b"), B), weave.state)
        self.assertEqual(weave.events, (("tick", "b"), B))

    def test_runs(self):
        for seed in range(60):
            dice = random.Random(seed)
            chip = made_chip(dice, 3, 3)
            run = made_run(dice, chip, 25)
            states = [oracle.first(chip)]
            for event in run:
                states.append(oracle.step(chip, states[-1], event))
            bad = [index for index, state in enumerate(states) if oracle.bad(chip, state)]
            weave = Weave.of(chip, tuple(run))
            self.assertEqual(facts(weave), (tuple(run), states[-1], oracle.bad(chip, states[-1]), bad[0] if bad else None, 25, states))
            single = Weave(chip)
            for index, event in enumerate(run):
                self.assertTrue(single(event))
                self.assertEqual(single.do(event), states[index + 1])
            self.assertEqual(facts(single), facts(weave))
            for count in (1, 3, 7):
                self.assertEqual(weave.undo(count), tuple(run[len(weave):][:count]))
            left = len(weave)
            self.assertEqual(left, 14)
            self.assertEqual(facts(weave), facts(Weave.of(chip, run[:left])))

    def test_first_is_the_first_one_of_several(self):
        weave = Weave.of(CHIP, [*DOWN, A, ("tick", "shore")])
        self.assertEqual((weave.first, weave.moments), (9, (("older", "a"),)))
        weave.do(("tick", "shore"))
        self.assertEqual((weave.first, len(weave)), (9, 11))
        weave.undo(2)
        self.assertEqual((weave.first, len(weave)), (9, 9))
        weave.undo()
        self.assertEqual((weave.first, weave.moments), (None, ()))
        weave.do(A)
        self.assertEqual(weave.first, 9)

    def test_all_events_or_none(self):
        weave = Weave.of(CHIP, [B, B])
        before = facts(weave)
        for wrong in ANY:
            if wrong != A:
                self.assertEqual(raised(weave.do, B, wrong, A), "InvalidEvent(1)")
                self.assertEqual(raised(weave.do, wrong), "InvalidEvent(0)")
        self.assertEqual(raised(weave.do, A, ("turn", "a", False)), "InvalidEvent(1)")
        self.assertEqual(raised(weave.do, A, B), "NotNow(0)")
        self.assertEqual(raised(weave.do, B, B, A, B, A), "NotNow(3)")
        self.assertEqual(raised(weave.do, B, ("tick", "b"), None), "InvalidEvent(2)")
        self.assertEqual(facts(weave), before)
        self.assertEqual(error_of(Weave.of, CHIP, [B, "b"]).index, 1)
        self.assertIsInstance(error_of(Weave.of, CHIP, (B, ("tick", "b"))), NotNow)
        self.assertIsInstance(error_of(Weave.of, CHIP, [A, B, None]), InvalidEvent)

    def test_undo_of_all_and_of_too_many(self):
        weave = Weave.of(CHIP, DOWN)
        for count in [value for value in ANY if not (type(value) is int and 1 <= value <= 8)] + [9, -8, "1", [1]]:
            error = error_of(weave.undo, count)
            self.assertIsInstance(error, NothingToUndo)
            self.assertIs(error.count, count)
        self.assertEqual(len(weave), 8)
        self.assertEqual(weave.undo(count=8), tuple(DOWN))
        self.assertEqual(facts(weave), facts(Weave(CHIP)))
        self.assertEqual(raised(weave.undo), "NothingToUndo(1)")
        weave.do(*DOWN)
        self.assertEqual([weave.undo(), weave.undo(2)], [(A,), (TICK, A)])

    def test_call(self):
        weave = Weave.of(CHIP, [B] * 4)
        for event, can in ((A, True), (B, True), (("tick", "b"), False), (TICK, True), (("tick", "shore"), True), (("turn", "a", 0), False),
                           (("turn", "a", True), False), (("tick", "c"), False), (["deed", "a"], False)):
            self.assertIs(weave(event), can, event)
        weave.do(A)
        self.assertIs(weave(("turn", "a", 0)), True)
        self.assertIs(weave(B), False)
        self.assertIs(weave(("turn", "a", False)), False)
        for value in ANY:
            self.assertIs(weave(value), value == A)

    def test_in(self):
        weave = Weave.of(CHIP, [B] * 4 + [A, ("turn", "a", 0)])
        self.assertEqual([each in weave for each in (A, B, TICK, ("turn", "a", 0), ("turn", "a", False), list(A))],
                         [True, True, False, True, False, False])
        for value in ANY:
            self.assertIs(value in weave, value == A)
        weave.undo(2)
        self.assertFalse(A in weave)

    def test_twin_and_equality(self):
        weave = Weave.of(CHIP, DOWN)
        twin = weave.twin()
        self.assertIsInstance(twin, Weave)
        self.assertEqual(facts(twin), facts(weave))
        self.assertTrue(twin == weave)
        twin.do(A)
        weave.undo(3)
        self.assertEqual((len(twin), len(weave), twin == weave), (9, 5, False))
        twin.undo(4)
        self.assertTrue(twin == weave)
        self.assertTrue(weave == Weave.of(CHIP.with_isles(), DOWN[:5]))
        self.assertFalse(weave == Weave.of(CHIP.with_isles(Isle("c")), DOWN[:5]))
        for value in (*ANY, CHIP, weave.events):
            self.assertFalse(weave == value)

    def test_states_are_those_at_the_first_request(self):
        weave = Weave.of(CHIP, [B, B])
        late, early = weave.states(), weave.states()
        first = next(early)
        weave.do(B)
        self.assertEqual(len(list(early)), 2)
        self.assertEqual(len(list(late)), 4)
        seen = []
        for state in weave.states():
            seen.append(state)
            if len(weave) < 6:
                weave.do(("tick", "shore"))
        self.assertEqual((len(seen), len(weave), seen[0]), (4, 6, first))
        one, two = weave.states(), weave.states()
        self.assertEqual([next(one), next(two), next(one), next(two)], [seen[0], seen[0], seen[1], seen[1]])


class TrialTest(unittest.TestCase):

    def setUp(self):
        self.weave = Weave.of(CHIP, DOWN)
        self.before = facts(self.weave)

    def test_with(self):
        with self.weave.trial() as same:
            self.assertIs(same, self.weave)
            same.do(A)
            same.undo(5)
            same.do(("tick", "a"))
            self.assertEqual(len(same), 5)
        self.assertEqual(facts(self.weave), self.before)

    def test_what_was_undone_comes_back(self):
        with self.weave.trial():
            self.weave.undo(8)
        self.assertEqual(facts(self.weave), self.before)
        self.assertEqual(self.weave.undo(2), (A, A))

    def test_trials_within_trials_that_end_by_an_error(self):
        trial = self.weave.trial()
        with self.assertRaises(NotNow):
            with trial:
                self.weave.do(A)
                inner = facts(self.weave)
                with self.assertRaises(ZeroDivisionError):
                    with self.weave.trial(), self.weave.trial() as same:
                        same.undo(3)
                        raise ZeroDivisionError
                self.assertEqual(facts(self.weave), inner)
                with self.assertRaises(KeyError):
                    self.weave.on_trial(lambda weave: [weave.undo(), weave.do(A), {}["key"]])
                self.assertEqual(facts(self.weave), inner)
                with trial:
                    self.weave.undo(8)
                self.assertEqual(facts(self.weave), inner)
                self.weave.do(A, TICK, A, TICK)
        self.assertEqual(facts(self.weave), self.before)
        with trial:
            self.weave.undo(1)
        self.assertEqual(facts(self.weave), self.before)

    def test_on_trial(self):
        def work(weave):
            self.assertIs(weave, self.weave)
            weave.undo(2)
            inner = weave.on_trial(lambda same: same.undo(6))
            return len(inner), len(weave)
        self.assertEqual(self.weave.on_trial(work), (6, 6))
        self.assertEqual(facts(self.weave), self.before)
        self.assertIsNone(self.weave.on_trial(work=lambda weave: None))
        self.assertEqual(raised(self.weave.on_trial, lambda weave: weave.undo(9)), "NothingToUndo(9)")
        self.assertEqual(facts(self.weave), self.before)

    def test_the_twin_of_a_trial_stays(self):
        with self.weave.trial():
            self.weave.do(A)
            twin = self.weave.twin()
        self.assertEqual((len(twin), len(self.weave)), (9, 8))


if __name__ == "__main__":
    unittest.main()
