"""[7], [16], [17], [22], duskisles/hearing.py: which wires are heard, what is told of it, and whether that is right."""

import itertools
import random
import unittest

import oracle
import oraclecones
import oraclepapers
from bent import bent
from duskisles.chips import Chip
from duskisles.errors import NoWire, TooMany
from duskisles.hearing import hearing, is_heard, lets_hearing
from duskisles.isles import Isle
from duskisles.marks import begin
from duskisles.needs import Sleepers
from duskisles.stations import Clamp, Holding, Pass
from duskisles.wires import Wire
from made import made_chip, made_state
from test_judge import hanging, small_chips
from values import ANY, copied, error_of

LATE = Isle("a", kept=0, sleep=("still", "shut"), wake=("go", "open"))
EARLY = LATE.changed(wake=("open", "go"))
CHIP = Chip(LATE, wires=(Wire("x", "a", "shore", Clamp("shore", "a")),))
HEARD = CHIP.with_isles(EARLY)


class IsHeardTest(unittest.TestCase):

    def test_states_by_chance(self):
        answers = {True: 0, False: 0}
        for seed in range(400):
            dice = random.Random(seed)
            chip = made_chip(dice, 3, 3)
            for _ in range(3):
                state = made_state(dice, chip)
                for name in chip.wires:
                    answer = is_heard(chip, state, name)
                    self.assertIs(answer, oraclepapers.is_heard(chip, state, name))
                    answers[answer] += 1
        self.assertTrue(min(answers.values()) > 100, answers)

    def test_who_is_asked(self):
        def told(clocks, shut, *stations, ends=("a", "b")):
            chip = Chip(Isle("a"), Isle("b"), Isle("c"), wires=(Wire("x", *ends, *stations),))
            rows = tuple(("up", 0, name in clocks, name in shut, True, "dust", "dust", "dust") for name in "abc")
            held = tuple("dust" if station.owner in shut else "open" for station in stations if isinstance(station, Holding))
            return is_heard(chip, (rows, held), "x")
        clamp, hold = Clamp("c", "c"), Holding("shore", "c")
        for station in (clamp, hold):
            self.assertEqual([told(clocks, "c", station) for clocks in ("ab", "a", "b", "c", "abc")], [False, True, True, True, False])
            self.assertEqual([told("ab", shut, station) for shut in ("", "a", "b", "ab", "abc")], [True, True, True, True, False])
            self.assertEqual([told(clocks, "c", station, ends=("shore", "b")) for clocks in ("", "a", "b")], [True, True, False])
            self.assertEqual([told(clocks, "c", station, ends=("a", "shore")) for clocks in ("", "a", "b")], [True, False, True])
        self.assertEqual([told("ab", "abc"), told("ab", "abc", Pass("c"))], [True, True])
        self.assertEqual([told("ab", shut, Clamp("a", "a"), hold) for shut in ("", "a", "b", "c", "ac")], [True, False, True, False, False])


class HearingTest(unittest.TestCase):

    def search(self, chip, name, states, answers):
        """Compares what is told of a wire with all states."""
        always = all(oraclepapers.is_heard(chip, state, name) for state in states)
        word, found = hearing(chip, name)
        self.assertEqual(word, "always" if always else "not")
        answers[word] += 1
        self.assertIs(lets_hearing(chip, name, (word, found)), True)
        if always:
            self.assertEqual(found, tuple(sorted(oraclepapers.hearing_rows(chip, name))))
        else:
            ends = oraclepapers.states_of(chip, found)
            self.assertEqual([oraclepapers.is_heard(chip, state, name) for state in ends], [True] * len(found) + [False])
            inside = oraclecones.cone(chip, ("hearing", name))
            self.assertLessEqual({event[1] for event in found}, set(inside) | hanging(chip, inside))

    def test_all_chips_of_a_kind_against_a_search_through_all_states(self):
        answers = {"always": 0, "not": 0}
        for sleep in (("shut",), ("still", "shut"), ("shut", "still"), ("still", "dark")):
            for wake in (("open",), ("open", "go"), ("go", "open"), ("go",), ("lit",)):
                for turns in ((), (("sleep", 1, 0),), (("wake", 1, 0),)):
                    if (turns and turns[0][0] == "sleep" and len(sleep) == 1) or (turns and turns[0][0] == "wake" and len(wake) == 1):
                        continue
                    for ends in (("a", "b"), ("b", "a"), ("a", "shore"), ("shore", "b")):
                        for owner in "ab":
                            chip = Chip(Isle("a", kept=0, sleep=sleep, wake=wake, turns=turns), Isle("b", kept=0, sleep=("still",), wake=("go",), needs=("a",)),
                                        wires=(Wire("x", *ends, Clamp("shore", owner)),))
                            self.search(chip, "x", oracle.every_state(chip), answers)
        self.assertTrue(min(answers.values()) > 30, answers)

    def test_chips_by_chance_against_a_search_through_all_states(self):
        answers = {"always": 0, "not": 0}
        for chip, states in small_chips(range(200), turns=1):
            for name in chip.wires:
                self.search(chip, name, states, answers)
        self.assertTrue(min(answers.values()) > 20, answers)

    def test_more_isles(self):
        answers = {"always": 0, "not": 0}
        for seed in range(150):
            chip = made_chip(random.Random(seed), 5, 3, needs=2)
            for name in chip.wires:
                word, found = hearing(chip, name, most=10 ** 6)
                answers[word] += 1
                self.assertIs(lets_hearing(chip, name, (word, found)), True)
                if len(oraclecones.cone(chip, ("hearing", name))) < 3:
                    self.assertTrue(oraclepapers.is_hearing(chip, name, (word, found)))
        self.assertTrue(min(answers.values()) > 20, answers)

    def test_the_example(self):
        self.assertEqual(hearing(CHIP, "x")[0], "not")
        self.assertEqual(hearing(HEARD, "x"), ("always", ((("asleep", 0, False, True, None),), (("falling", 1, False, False, None),),
                                                        (("up", 0, True, False, None),), (("waking", 1, False, False, None),))))

    def test_the_shortest_cones(self):
        self.assertEqual(hearing(Chip(Isle("a"), wires=(Wire("x", "a", "shore"),)), "x"), ("always", ((("falling", 1, False, None, None),), (("up", 0, True, None, None),))))
        still = Chip(Isle("a", sleeps=False), Isle("b", needs=("a",)), wires=(Wire("x", "shore", "a", Clamp("b", "a")),))
        self.assertEqual(hearing(still, "x"), ("always", ((("up", 0, True, False, None),),)))

    def test_isles_outside_that_must_be_asleep(self):
        chip = CHIP.with_isles(Isle("b", needs=("a",)), Isle("c", needs=("b",)), Isle("d"))
        word, events = hearing(chip, "x")
        self.assertEqual((word, events[:8]), ("not", Sleepers(chip, "b", "c").deeds()))
        self.assertEqual({event[1] for event in events[8:]}, {"a"})
        self.assertIs(lets_hearing(chip, "x", (word, events)), True)
        self.assertIs(lets_hearing(chip, "x", (word, events[8:])), False)
        self.assertEqual(hearing(chip.with_isles(Isle("c", needs=("b",), sleeps=False)), "x")[0], "always")

    def test_too_many(self):
        for chip in (CHIP, HEARD):
            count = len(oraclepapers.hearing_rows(chip, "x"))
            for most in (count, count + 1, 10 ** 30):
                self.assertEqual(hearing(chip, "x", most=most), hearing(chip, "x"))
            for most in (1, count - 1):
                error = error_of(hearing, chip, "x", most=most)
                self.assertEqual((type(error), error.most), (TooMany, most))

    def test_no_wires_first(self):
        for value in ANY + ["z", "shore", "xx"]:
            if value != "x":
                for work, more in ((is_heard, None), (hearing, None), (lets_hearing, ("always", ()))):
                    error = error_of(work, CHIP, begin(CHIP), value) if work is is_heard else error_of(work, CHIP, value, *([more] if more else []))
                    self.assertIsInstance(error, NoWire)
                    self.assertIs(error.which, value)

    def test_lists_belong_to_the_caller(self):
        hearing(CHIP, "x")[1].clear()
        self.assertNotEqual(hearing(CHIP, "x")[1], [])


class LetsHearingTest(unittest.TestCase):

    def test_runs(self):
        word, events = hearing(CHIP, "x")
        self.assertIs(lets_hearing(CHIP, "x", (word, events)), True)
        # It may be unheard ahead of the end, too.
        for more in ([("tick", "a")], [("tick", "shore")], [("deed", "a")] * 4):
            told = (word, events + more)
            self.assertIs(lets_hearing(CHIP, "x", told), oraclepapers.is_hearing(CHIP, "x", told))
        self.assertIs(lets_hearing(CHIP, "x", (word, events + [("tick", "shore")])), True)
        for wrong in (events[:-1], events[1:], tuple(events), [], events + [("deed", "a")], events[:1] + events, [list(event) for event in events], None):
            self.assertIs(lets_hearing(CHIP, "x", (word, wrong)), False)
        for wrong in (("always", events), [word, events], (word, events, 0), (word,), events, ("no", events)):
            self.assertIs(lets_hearing(CHIP, "x", wrong), False)

    def test_rows(self):
        word, rows = hearing(HEARD, "x")
        for at in range(len(rows)):
            self.assertIs(lets_hearing(HEARD, "x", (word, rows[:at] + rows[at + 1:])), False)
            self.assertIs(lets_hearing(HEARD, "x", (word, rows[:at] + rows[at:at + 1] + rows[at:])), False)
        for wrong in (rows[::-1], list(rows), rows + ((("up", 0, True, True, None),),), ()):
            self.assertIs(lets_hearing(HEARD, "x", (word, wrong)), False)
        self.assertIs(lets_hearing(CHIP, "x", ("always", tuple(sorted(oraclepapers.hearing_rows(CHIP, "x"))))), False)
        self.assertIs(lets_hearing(HEARD, "x", ("not", rows)), False)

    def test_rows_that_do_not_come(self):
        # b leaves up only as long as a is asleep, so its clamp is never shut for a.
        chip = Chip(Isle("a", kept=0, sleep=("still",), wake=("go",), needs=("b",)), Isle("b", kept=0, sleep=("shut", "still"), wake=("go", "open")),
                    wires=(Wire("x", "shore", "a", Clamp("shore", "b")),))
        word, rows = hearing(chip, "x")
        stands = [oraclecones.stands(chip, ("hearing", "x"), name) for name in ("a", "b")]
        for row in itertools.product(*stands):
            more = tuple(sorted({*rows, row}))
            self.assertIs(lets_hearing(chip, "x", (word, more)), row in rows)
        # The wire of a chip in which nobody is ever shut is heard in all rows, also in those that do not come.
        free = Chip(chip["a"], chip["b"], Isle("c", sleeps=False), wires=(Wire("x", "b", "a", Clamp("shore", "c")),))
        stands = [oraclecones.stands(free, ("hearing", "x"), name) for name in ("a", "b", "c")]
        every = tuple(sorted(itertools.product(*stands)))
        self.assertLess(len(hearing(free, "x")[1]), len(every))
        self.assertIs(lets_hearing(free, "x", ("always", every)), True)
        self.assertIs(lets_hearing(free, "x", ("always", every[1:])), False)

    def test_bent_by_chance(self):
        answers = {True: 0, False: 0}
        for seed in range(60):
            dice = random.Random(seed)
            chip = made_chip(dice, 2, 2, whole=0.3)
            for name in chip.wires:
                thing = hearing(chip, name)
                for _ in range(20):
                    wrong = bent(dice, thing)
                    kept = copied(wrong)
                    answer = lets_hearing(chip, name, wrong)
                    self.assertIs(answer, oraclepapers.is_hearing(chip, name, wrong), (str(chip), wrong))
                    self.assertEqual(wrong, kept)
                    answers[answer] += 1
        self.assertTrue(answers[False] > 500, answers)

    def test_any_values(self):
        for value in ANY + [("always",), ("always", None), ("not", None), (None, ())]:
            for chip in (CHIP, HEARD):
                self.assertIs(lets_hearing(chip, "x", value), False)
                self.assertIs(lets_hearing(chip, "x", ("always", value)), False)
                self.assertIs(lets_hearing(chip, "x", ("not", value)), False)
                self.assertIs(lets_hearing(chip, "x", ("always", (value,))), False)
                self.assertIs(lets_hearing(chip, "x", ("not", [value])), False)


if __name__ == "__main__":
    unittest.main()
