"""[2], [12] to [14], [23], duskisles/conductor.py: conductors, guides and refusals."""

import random
import unittest

import oracle
import oraclepapers
from bent import STRANGE, bent_part, part_at, places, with_part
from duskisles.chips import Chip
from duskisles.conductor import Conductor, lets_guide, lets_refusal
from duskisles.errors import InvalidEvent, NoState, NotLet, NotNow, TooMany
from duskisles.isles import Isle
from duskisles.machines import parted
from duskisles.marks import begin
from duskisles.stations import Clamp, Holding
from duskisles.verdict import is_safe
from duskisles.weaves import Weave
from duskisles.wires import Wire
from made import made_state
from test_judge import small_chips
from values import ANY, copied, error_of

ONE = Isle("a", kept=0, sleep=("still", "dark"), wake=("lit", "reset", "go"))
TWO = Isle("b", kept=0, sleep=("still",), wake=("go",))
CHIP = Chip(ONE, TWO, wires=(Wire("x", "a", "b"),))

# A tick behind the save makes the shadow older, and nothing brings it back.
STUCK = Chip(Isle("a", plain=0, sleep=("save", "still"), wake=("back", "go")))


class Failed(Exception):
    pass


def small_states(seeds, **kinds):
    """Yields chance, chip, all states that come, and those that are let."""
    for number, (chip, states) in enumerate(small_chips(seeds, turns=1, **kinds)):
        if len(states) <= 250:
            yield random.Random(number), chip, list(states), oraclepapers.let_states(chip, states)


def moves_of(chip, state):
    return [event for event in oracle.events(chip, state) if event[0] != "tick"]


class LetTest(unittest.TestCase):

    def test_let_states_against_the_greatest_good_set_of_a_slow_search(self):
        counts = {"all": 0, "some": 0, "few": 0}
        for _, chip, states, good in small_states(range(150)):
            conductor = Conductor(chip)
            self.assertEqual(len(conductor), len(good))
            for state in states:
                self.assertIs(state in conductor, state in good)
                told = [event for event in moves_of(chip, state) if state in good and oracle.step(chip, state, event) in good]
                self.assertEqual(list(conductor.allowed(state)), told)
            clean = [state for state in states if not oracle.bad(chip, state)]
            counts["all" if len(good) == len(states) else "some" if len(good) == len(clean) else "few"] += 1
            self.assertIs(is_safe(chip), len(good) == len(states))
            self.assertIn(begin(chip), conductor)
        self.assertTrue(min(counts.values()) > 15, counts)

    def test_the_example(self):
        conductor = Conductor(CHIP)
        self.assertEqual((len(conductor), list(conductor.allowed(conductor.present))), (8, [("deed", "a"), ("deed", "b")]))
        first = conductor.do(("deed", "a"))
        self.assertEqual((list(conductor.allowed(first)), len(conductor.home()), conductor.refusal(first)), ([("deed", "b")], 6, None))
        error = error_of(conductor.do, ("deed", "a"))
        self.assertEqual((type(error), error.event), (NotLet, ("deed", "a")))

    def test_values_that_are_no_states_that_come(self):
        conductor = Conductor(CHIP)
        (a, b), held = begin(CHIP)
        wrong = ANY + [((a, b),), (a, b), ((a,), held), ((a, b, b), held), [(a, b), held], ([a, b], held), ((list(a), b), held), ((a, b), []), ((a, b), None),
                       (((a[0], False, *a[2:]), b), held), (((*a[:2], 1, *a[3:]), b), held), (((*a[:3], 0, *a[4:]), b), held), (((*a[:4], 0, *a[5:]), b), held),
                       (((*a[:7], "older"), b), held), (((*a[:6], "dust", "same"), b), held), ((("falling", 2, *a[2:]), b), held), ((a, b), ("open",)),
                       ((("asleep", 0, *a[2:]), b), held), ((("falling", -1, *a[2:]), b), held), ((("gone", 0, *a[2:]), b), held), (((*a, "same"), b), held), ((a[:7], b), held), ((a, None), held)]
        for value in wrong:
            self.assertIs(value in conductor, False)
            for work in (lambda value: list(conductor.allowed(value)), conductor.move, conductor.refusal, lambda value: setattr(conductor, "present", value)):
                error = error_of(work, value)
                self.assertIsInstance(error, NoState)
                self.assertIs(error.value, value)
        self.assertEqual(conductor.present, begin(CHIP))

    def test_states_that_are_not_let(self):
        conductor = Conductor(CHIP)
        state = Weave.of(CHIP, [("deed", "a"), ("deed", "a")]).state
        self.assertIs(state in conductor, False)
        self.assertEqual((list(conductor.allowed(state)), conductor.refusal(state)), ([], [(state,)]))
        for work in (conductor.move, lambda value: setattr(conductor, "present", value)):
            error = error_of(work, state)
            self.assertEqual((type(error), error.value), (NoState, state))
        self.assertEqual(conductor.present, begin(CHIP))

    def test_too_many(self):
        for chip in (CHIP, STUCK):
            count = len(oracle.every_state(chip))
            for most in (count, count + 1, 10 ** 30):
                self.assertEqual(len(Conductor(chip, most=most)), len(Conductor(chip)))
            for most in (1, count - 1):
                error = error_of(Conductor, chip, most=most)
                self.assertEqual((type(error), error.most), (TooMany, most))
        self.assertEqual(len(Conductor(Chip(Isle("a", kept=0, sleeps=False)), most=1)), 1)
        self.assertEqual(Conductor.MOST, 20000)
        large = Chip(*[Isle(name) for name in "abcd"])
        error = error_of(Conductor, large)
        self.assertEqual((type(error), error.most), (TooMany, 20000))

    def test_generators_by_turns(self):
        conductor = Conductor(CHIP)
        both = zip(conductor.allowed(conductor.present), conductor.allowed(state=conductor.present))
        self.assertEqual(next(both), (("deed", "a"), ("deed", "a")))
        conductor.do(("deed", "b"))
        self.assertEqual(list(both), [(("deed", "b"), ("deed", "b"))])


class DoneTest(unittest.TestCase):

    def test_present(self):
        conductor = Conductor(CHIP)
        self.assertEqual(conductor.present, begin(CHIP))
        other = Weave.of(CHIP, [("deed", "b"), ("deed", "a"), ("deed", "a")]).state
        self.assertIsNone(conductor.move(other))
        self.assertEqual(conductor.present, other)
        conductor.present = begin(CHIP)
        self.assertEqual((conductor.present, conductor.do()), (begin(CHIP), begin(CHIP)))
        self.assertIsNone(conductor.move(value=other))

    def test_errors_in_order(self):
        conductor = Conductor(CHIP)
        for events, told in (((("deed", "a"), ("deed", "a"), ("deed", "z")), (InvalidEvent, 2)), ((None, ("deed", "a")), (InvalidEvent, 0)),
                             ((("tick", "a"), ("turn", "a", 0)), (InvalidEvent, 1)), ((("deed", "a"), ("tick", "a")), (NotNow, 1)),
                             ((("deed", "a"), ("deed", "a"), ("tick", "a")), (NotLet, ("deed", "a"))),
                             ((("deed", "b"), ("tick", "b"), ("deed", "a")), (NotNow, 1)), ((("tick", "shore"), ("deed", "a"), ("deed", "a")), (NotLet, ("deed", "a")))):
            error = error_of(conductor.do, *events)
            self.assertEqual((type(error), error.event if isinstance(error, NotLet) else error.index), told)
            self.assertEqual(conductor.present, begin(CHIP))
        for value in ANY:
            if value == ("deed", "a"):
                continue
            error = error_of(conductor.do, ("deed", "b"), value)
            self.assertEqual((type(error), error.index), (InvalidEvent, 1))

    def test_runs_by_chance(self):
        held_back = 0
        for dice, chip, _, good in small_states(range(80)):
            conductor, state, done = Conductor(chip), begin(chip), []
            for _ in range(40):
                event = dice.choice(oracle.events(chip, state))
                behind = oracle.step(chip, state, event)
                if event[0] == "tick" or behind in good:
                    self.assertEqual(conductor.do(event), behind)
                    state = behind
                    done.append(event)
                else:
                    held_back += 1
                    self.assertEqual(error_of(conductor.do, event).event, event)
                self.assertEqual(conductor.present, state)
            self.assertIsNone(parted(chip, done))
            again = Conductor(chip)
            self.assertEqual(again.do(*done), state)
        self.assertGreater(held_back, 100)

    def test_the_two_chips_do_not_part_whatever_ticks_come(self):
        for dice, chip, _, _ in small_states(range(60)):
            conductor, done = Conductor(chip), []
            for _ in range(30):
                ticks = [event for event in oracle.events(chip, conductor.present) if event[0] == "tick"]
                event = dice.choice(ticks + list(conductor.allowed(conductor.present)) * 2)
                conductor.do(event)
                done.append(event)
            done += conductor.home()
            self.assertIsNone(parted(chip, done))
            self.assertTrue(oraclepapers.all_up(Weave.of(chip, done).state))

    def test_home(self):
        for dice, chip, states, good in small_states(range(60)):
            conductor = Conductor(chip)
            numbers = conductor.guide()
            self.assertEqual(set(numbers), good)
            for state in dice.sample(sorted(good), min(20, len(good))):
                conductor.move(state)
                events = conductor.home()
                self.assertEqual((len(events), conductor.home()), (numbers[state], events))
                for event in events:
                    self.assertIn(event, list(conductor.allowed(conductor.present)))
                    conductor.do(event)
                self.assertTrue(oraclepapers.all_up(conductor.present))
                events.clear()

    def test_the_fewest_deeds_and_turns(self):
        for _, chip, _, good in small_states(range(60)):
            fewest = {state: 0 for state in good if oraclepapers.all_up(state)}
            for count in range(1, len(good)):
                for state in good - set(fewest):
                    if any(fewest.get(oracle.step(chip, state, event)) == count - 1 for event in moves_of(chip, state)):
                        fewest[state] = count
            self.assertEqual(Conductor(chip).guide(), fewest)

    def test_trials(self):
        conductor = Conductor(CHIP)
        conductor.do(("deed", "b"))
        ahead = conductor.present
        with conductor.trial() as same:
            self.assertIs(same, conductor)
            conductor.do(("deed", "a"))
            inner = conductor.present
            with conductor.trial():
                conductor.do(("deed", "a"))
                conductor.present = begin(CHIP)
            self.assertEqual(conductor.present, inner)
        self.assertEqual(conductor.present, ahead)
        with self.assertRaises(Failed):
            with conductor.trial():
                conductor.do(("deed", "a"))
                raise Failed()
        self.assertEqual(conductor.present, ahead)

    def test_one_object_within_its_own_block(self):
        conductor = Conductor(CHIP)
        trial = conductor.trial()
        with trial:
            conductor.do(("deed", "a"))
            inner = conductor.present
            with trial:
                conductor.do(("deed", "b"))
            self.assertEqual(conductor.present, inner)
        self.assertEqual(conductor.present, begin(CHIP))
        conductor.do(("deed", "b"))
        with trial:
            conductor.move(begin(CHIP))
        self.assertEqual(conductor.present, Weave.of(CHIP, [("deed", "b")]).state)

    def test_on_trial(self):
        conductor = Conductor(CHIP)

        def work(given):
            self.assertIs(given, conductor)
            given.do(("deed", "b"))
            return given.on_trial(lambda same: same.do(("deed", "a"))), given.present

        two = Weave.of(CHIP, [("deed", "b")])
        self.assertEqual(conductor.on_trial(work), (two.do(("deed", "a")), Weave.of(CHIP, [("deed", "b")]).state))
        self.assertEqual(conductor.present, begin(CHIP))

        def fail(given):
            given.do(("deed", "a"))
            raise Failed()
        with self.assertRaises(Failed):
            conductor.on_trial(work=fail)
        self.assertEqual(conductor.present, begin(CHIP))

    def test_what_is_returned_belongs_to_the_caller(self):
        conductor = Conductor(CHIP)
        conductor.do(("deed", "a"))
        for work in (conductor.guide, conductor.home, lambda: conductor.refusal(Weave.of(CHIP, [("deed", "a")] * 2).state)):
            told = copied(work())
            work().clear()
            self.assertEqual(work(), told)


class GuideTest(unittest.TestCase):

    def test_guides(self):
        for _, chip, states, good in small_states(range(60)):
            numbers = Conductor(chip).guide()
            self.assertIs(lets_guide(chip, numbers), True)
            self.assertIs(lets_guide(chip, dict(reversed(list(numbers.items())))), True)
            more = {state: numbers[state] + (numbers[state] > 0) for state in numbers}
            self.assertIs(lets_guide(chip, more), oraclepapers.is_guide(chip, more))

    def test_nothing_is_a_guide(self):
        self.assertIs(lets_guide(CHIP, {}), True)

    def test_states_that_do_not_come(self):
        # b lies asleep with a dusty register; it never came so, but its way up cleans it.
        strange = (("up", 0, True, False, False, "clean", "clean", "same"), ("asleep", 0, False, True, True, "clean", "dust", "same"))
        chip = Chip(Isle("a", kept=0, plain=1), Isle("b", kept=0, sleep=("still", "dark"), wake=("lit", "reset", "go")))
        state = (strange, ())
        self.assertNotIn(state, Conductor(chip))
        numbers = {state: 3}
        for count in (2, 1, 0):
            state = oracle.step(chip, state, ("deed", "b"))
            numbers[state] = count
        self.assertIs(lets_guide(chip, numbers), True)
        del numbers[state]
        self.assertIs(lets_guide(chip, numbers), False)

    def test_bent_by_chance(self):
        answers = {True: 0, False: 0}
        for dice, chip, states, good in small_states(range(100)):
            numbers = Conductor(chip).guide()
            if len(numbers) > 40:
                continue
            for _ in range(15):
                wrong = dict(numbers)
                state = dice.choice(list(wrong))
                choice = dice.randint(0, 5)
                if choice == 0:
                    del wrong[state]
                elif choice == 1:
                    wrong[dice.choice(states)] = dice.choice([0, 1, 2, 3, 5])
                elif choice == 2:
                    wrong[state] += dice.choice([-1, 1, 2, -2])
                elif choice == 3:
                    wrong[state] = dice.choice([True, False, None, "1", (), -1, 10 ** 59, 0])
                elif choice == 4:
                    wrong[made_state(dice, chip)] = dice.choice([0, 1, 2])
                else:
                    del wrong[state]
                    way = dice.choice(places(state))
                    changed = with_part(state, way, bent_part(dice, part_at(state, way)))
                    try:
                        wrong[changed] = numbers[state]
                    except TypeError:
                        wrong[repr(changed)] = numbers[state]
                kept = dict(wrong)
                answer = lets_guide(chip, wrong)
                self.assertIs(answer, oraclepapers.is_guide(chip, wrong), (str(chip), wrong))
                self.assertEqual(wrong, kept)
                answers[answer] += 1
        self.assertTrue(min(answers.values()) > 40, answers)

    def test_any_values(self):
        numbers = Conductor(CHIP).guide()
        for value in ANY:
            if value != {}:
                self.assertIs(lets_guide(CHIP, value), False)
            self.assertIs(lets_guide(CHIP, {**numbers, begin(CHIP): value}), oraclepapers.same(value, 0))
            if not isinstance(value, (list, dict)) and not any(isinstance(part, (list, dict)) for part in (value if isinstance(value, tuple) else ())):
                self.assertIs(lets_guide(CHIP, {**numbers, value: 0}), False)
        self.assertIs(lets_guide(CHIP, list(numbers)), False)
        self.assertIs(lets_guide(CHIP, list(numbers.items())), False)


class RefusalTest(unittest.TestCase):

    def test_refusals(self):
        kinds = {}
        for dice, chip, states, good in small_states(range(150)):
            conductor = Conductor(chip)
            for state in states:
                told = conductor.refusal(state)
                self.assertIs(told is None, state in good)
                if told is not None:
                    self.assertIs(lets_refusal(chip, state, told), True)
                    if dice.random() < 0.2:
                        self.assertTrue(oraclepapers.is_refusal(chip, state, told))
                    self.assertEqual((Conductor(chip).refusal(state) if dice.random() < 0.02 else told), told)
                    self.assertFalse(good & {each for row in told for each in row})
                    kinds[len(told)] = kinds.get(len(told), 0) + 1
        self.assertTrue(kinds[1] > 1000 and kinds[2] > 500 and kinds[3] > 10, kinds)

    def test_three_kinds_of_rounds(self):
        # Behind the first deed, a tick makes the shadow older, from which the deeds lead only to a bad moment.
        conductor = Conductor(STUCK)
        state = conductor.present
        ticked = Weave.of(STUCK, [("deed", "a"), ("tick", "a")])
        rounds = conductor.refusal(ticked.state)
        self.assertEqual([len(row) for row in rounds[:1]], [1])
        self.assertIn(ticked.state, rounds[-1])
        saved = Weave.of(STUCK, [("deed", "a")]).state
        told = conductor.refusal(saved)
        self.assertEqual((told[:-1], told[-1]), (rounds, (saved,)))
        # Let are up with either shadow, and asleep and waking if it was saved without a tick behind it.
        self.assertEqual((list(conductor.allowed(state)), len(conductor)), ([], 4))

    def test_a_tick_that_is_not_the_first_one(self):
        # The ticks of a and of the shore lead nowhere; that of b does.
        chip = Chip(Isle("a", kept=0, sleeps=False), Isle("b", plain=0, sleep=("save", "still"), wake=("back", "go")))
        state = Weave.of(chip, [("deed", "b")]).state
        told = Conductor(chip).refusal(state)
        self.assertEqual(told[-1], (state,))
        self.assertIs(lets_refusal(chip, state, told), True)

    def test_states_in_which_all_are_up_are_not_stuck(self):
        for chip in (Chip(Isle("a", kept=0, sleeps=False)), CHIP):
            every = tuple(sorted(oracle.every_state(chip)))
            self.assertIs(lets_refusal(chip, begin(chip), [(begin(chip),)]), False)
            self.assertIs(lets_refusal(chip, begin(chip), [every]), False)
        lost = Chip(Isle("a", kept=0, sleep=("still",), wake=("go",)), Isle("b", kept=0, sleeps=False, needs=("a",)))
        asleep = ((("asleep", 0, False, False, False, "clean", "clean", "same"), begin(lost)[0][1]), ())
        self.assertIs(lets_refusal(lost, asleep, [(asleep,)]), False)
        # Nobody who is asleep can wake where each needs the other one.
        ring = Chip(Isle("a", kept=0, needs=("b",)), Isle("b", kept=0, needs=("a",)))
        both = ((("asleep", 0, False, False, False, "clean", "clean", "same"),) * 2, ())
        self.assertIs(lets_refusal(ring, both, [(both,)]), True)

    def test_forms_of_states(self):
        # Where nothing else is asked of a state than its form: it is dark with its clock on.
        chip = Chip(Isle("a", sleep=("dark", "still"), wake=("lit", "reset", "go")))
        def lets(*row):
            state = ((row,), ())
            return lets_refusal(chip, state, [(state,)])
        rest = (True, False, True, "clean", "clean", "same")
        for phase, counts in (("up", [0]), ("asleep", [0]), ("falling", [0, 1]), ("waking", [0, 1, 2]), ("gone", [])):
            for count in (-1, 0, 1, 2, 3, 4):
                self.assertIs(lets(phase, count, *rest), count in counts)
            for count in (False, True, None, "0", (0,)):
                self.assertIs(lets(phase, count, *rest), False)

    def test_other_rounds_that_are_right(self):
        for dice, chip, states, good in small_states(range(60)):
            conductor = Conductor(chip)
            bad = tuple(sorted(state for state in states if oracle.bad(chip, state)))
            for state in dice.sample(states, min(10, len(states))):
                told = conductor.refusal(state)
                if told is not None:
                    # More states with a bad moment ahead do no harm; a round may be there twice.
                    for more in ([bad, *told], told + told[-1:], [bad, bad, *told]):
                        self.assertIs(lets_refusal(chip, state, more), True)
                    self.assertIs(lets_refusal(chip, state, [*told, bad]), state in bad)

    def test_states_that_do_not_come(self):
        lost = Chip(Isle("a", kept=0, sleep=("still",), wake=("go",)))
        state = ((("up", 0, True, False, True, "clean", "dust", "same"),), ())
        self.assertIs(lets_refusal(lost, state, [(state,)]), True)
        self.assertIs(lets_refusal(lost, begin(lost), [(state,)]), False)
        stuck = Chip(Isle("a", kept=0, sleeps=False))
        asleep = ((("asleep", 0, False, False, False, "clean", "clean", "same"),), ())
        self.assertIs(lets_refusal(stuck, asleep, [(asleep,)]), False)

    def test_bent_by_chance(self):
        answers = {True: 0, False: 0}
        for dice, chip, states, good in small_states(range(120)):
            conductor = Conductor(chip)
            refused = [state for state in states if state not in good]
            for state in dice.sample(refused, min(6, len(refused))):
                told = conductor.refusal(state)
                for _ in range(8):
                    choice = dice.randint(0, 3)
                    wrong = copied(told)
                    at = dice.randrange(len(wrong))
                    if choice == 0:
                        way = dice.choice(places(wrong))
                        wrong = with_part(wrong, way, bent_part(dice, part_at(wrong, way)))
                    elif choice == 1:
                        wrong[at] = tuple(sorted({*wrong[at], dice.choice(states)}))
                    elif choice == 2:
                        wrong[at] = tuple(sorted({*wrong[at], made_state(dice, chip)}))
                    else:
                        wrong[at] = wrong[at][1:]
                    kept = copied(wrong)
                    answer = lets_refusal(chip, state, wrong)
                    self.assertIs(answer, oraclepapers.is_refusal(chip, state, wrong), (str(chip), state, wrong))
                    self.assertEqual(wrong, kept)
                    answers[answer] += 1
        self.assertTrue(min(answers.values()) > 100, answers)

    def test_any_values(self):
        state = Weave.of(CHIP, [("deed", "a"), ("deed", "a")]).state
        for value in ANY + STRANGE:
            self.assertIs(lets_refusal(CHIP, state, value), False)
            self.assertIs(lets_refusal(CHIP, state, [value]), False)
            self.assertIs(lets_refusal(CHIP, state, [(value,)]), False)
            self.assertIs(lets_refusal(CHIP, state, [(state,), value]), False)
            self.assertIs(lets_refusal(CHIP, state, [value, (state,)]), False)
        self.assertIs(lets_refusal(CHIP, state, [(state,)]), True)
        self.assertIs(lets_refusal(CHIP, state, ((state,),)), False)
        self.assertIs(lets_refusal(CHIP, state, [[state]]), False)
        self.assertIs(lets_refusal(CHIP, state, [(state, state)]), False)

    def test_held_marks(self):
        chip = Chip(Isle("a", kept=0, sleep=("shut",), wake=("open",)), wires=(Wire("x", "shore", "a", Holding("shore", "a"), Clamp("a", "a")),))
        (a,), held = begin(chip)
        dust = (((*a[:3], True, *a[4:]),), ("dust",))
        self.assertIs(lets_refusal(chip, dust, [(dust,)]), False)
        plain = chip.with_wires(Wire("x", "shore", "a", Holding("shore", "a")))
        self.assertIs(lets_refusal(plain, dust, [(dust,)]), True)
        for wrong in (((a,), ("dust",)), (dust[0], ("open",)), (dust[0], ()), (dust[0], ["dust"]), (dust[0], ("same",)), (dust[0], ("dust", "dust"))):
            self.assertIs(lets_refusal(plain, wrong, [(wrong,)]), False)


if __name__ == "__main__":
    unittest.main()
