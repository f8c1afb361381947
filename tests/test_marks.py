"""[6] to [12], duskisles/marks.py: events, states, marks and bad moments."""

import itertools
import random
import unittest

import oracle
from duskisles.chips import Chip
from duskisles.errors import InvalidEvent, NoQuestion, NotNow
from duskisles.isles import Isle
from duskisles.marks import bad_moments, begin, events_from, is_bad, step
from duskisles.stations import Clamp, Holding, Pass
from duskisles.wires import Wire
from made import made_chip, made_state
from values import ANY, copied, error_of, raised

FIRST = ("up", 0, True, False, False, "clean", "clean", "same")


def row(text="", kept="clean", plain="clean", shadow="same", phase="up", count=0):
    """The tuple of an isle in a state; the text has the flags that are not as at first."""
    words = text.split()
    return (phase, count, "still" not in words, "shut" in words, "away" in words, kept, plain, shadow)


def behind(chip, state, *events):
    for event in events:
        state = step(chip, state, event)
    return state


def deeds(name, count):
    return [("deed", name)] * count


class EventsTest(unittest.TestCase):

    def test_first_state(self):
        chip = Chip(Isle("b"), Isle("a", kept=0), wires=(Wire("y", "a", "b", Holding("b", "b"), Pass("a"), Holding("a", "a")),
                                                          Wire("x", "a", "b", Clamp("b", "a"), Holding("shore", "a"))))
        self.assertEqual(begin(chip), ((FIRST, FIRST), ("open", "open", "open")))
        self.assertEqual(bad_moments(chip, begin(chip)), ())
        self.assertEqual(begin(Chip(Isle("a"))), ((FIRST,), ()))

    def test_events_in_each_post(self):
        turns = (("sleep", 2, 0), ("wake", 1, 0), ("sleep", 2, 3), ("sleep", 1, 1))
        chip = Chip(Isle("a", turns=turns))
        told = {("up", 0): [], ("falling", 0): [], ("falling", 1): [3], ("falling", 2): [0, 2], ("falling", 3): [], ("asleep", 0): [],
                ("waking", 0): [], ("waking", 1): [1], ("waking", 2): [], ("waking", 4): []}
        for post, indexes in told.items():
            state = ((post + FIRST[2:],), ())
            self.assertEqual(list(events_from(chip, state)),
                             [("deed", "a"), *[("turn", "a", index) for index in indexes], ("tick", "a"), ("tick", "shore")])
            for index in range(4):
                error = raised(step, chip, state, ("turn", "a", index))
                self.assertEqual(error, None if index in indexes else "NotNow(0)")

    def test_deeds_go_through_both_rows(self):
        chip = Chip(Isle("a", sleep=("dark", "still"), wake=("go", "lit", "reset")))
        state, posts = begin(chip), []
        for _ in range(5):
            state = step(chip, state, ("deed", "a"))
            posts.append(state[0][0][:5])
        self.assertEqual(posts, [("falling", 1, True, False, True), ("asleep", 0, False, False, True), ("waking", 1, True, False, True),
                                 ("waking", 2, True, False, False), ("up", 0, True, False, False)])

    def test_rows_of_one_word(self):
        for sleep, wake in itertools.product(Isle.SLEEP, Isle.WAKE):
            chip = Chip(Isle("a", sleep=(sleep,), wake=(wake,)))
            down = step(chip, begin(chip), ("deed", "a"))
            self.assertEqual(down[0][0][:5], ("asleep", 0, sleep != "still", sleep == "shut", sleep == "dark"))
            up = step(chip, down, ("deed", "a"))
            self.assertEqual(up[0][0][:2], ("up", 0))

    def test_rows_of_all_words_in_any_order(self):
        orders = [(sleep, Isle.WAKE) for sleep in itertools.permutations(Isle.SLEEP)]
        orders += [(Isle.SLEEP, wake) for wake in itertools.permutations(Isle.WAKE)]
        for sleep, wake in orders:
            chip = Chip(Isle("a", sleep=sleep, wake=wake))
            state, mirror = begin(chip), oracle.first(chip)
            for _ in range(9):
                self.assertEqual(list(events_from(chip, state)), oracle.events(chip, state))
                state, mirror = step(chip, state, ("deed", "a")), oracle.step(chip, mirror, ("deed", "a"))
                self.assertEqual(state, mirror)
            self.assertEqual(state[0][0][:5], FIRST[:5])

    def test_turns_change_nothing_but_the_post(self):
        chip = Chip(Isle("a", turns=(("sleep", 3, 0), ("wake", 2, 0))))
        state = behind(chip, begin(chip), *deeds("a", 3))
        turned = step(chip, state, ("turn", "a", 0))
        self.assertEqual(turned, ((("waking", 0) + state[0][0][2:],), ()))
        self.assertEqual(turned[0][0][2:5], (False, True, False))
        back = behind(chip, turned, *deeds("a", 2), ("turn", "a", 1))
        self.assertEqual(back[0][0][:5], ("falling", 0, False, True, False))
        self.assertEqual(step(chip, back, ("deed", "a"))[0][0][:5], ("falling", 1, False, True, False))

    def test_counts_0_between_are_neither_up_nor_asleep(self):
        chip = Chip(Isle("a", needs=("b",)), Isle("b"))
        falling = (row(phase="falling"), FIRST)
        self.assertIn(("deed", "a"), events_from(chip, (falling, ())))
        self.assertNotIn(("deed", "b"), events_from(chip, (falling, ())))
        waking = (row(phase="asleep"), row(phase="waking"))
        self.assertNotIn(("deed", "a"), events_from(chip, (waking, ())))
        self.assertIn(("deed", "b"), events_from(chip, (waking, ())))

    def test_needs_in_a_row(self):
        chip = Chip(Isle("a", needs=("b",)), Isle("b", needs=("c",)), Isle("c"))
        state = begin(chip)
        self.assertEqual([event for event in events_from(chip, state) if event[0] == "deed"], [("deed", "a")])
        self.assertEqual(raised(step, chip, state, ("deed", "b")), "NotNow(0)")
        state = behind(chip, state, *deeds("a", 3))
        self.assertEqual(raised(step, chip, state, ("deed", "b")), "NotNow(0)")
        state = behind(chip, state, *deeds("a", 1), *deeds("b", 4))
        self.assertEqual(raised(step, chip, state, ("deed", "a")), "NotNow(0)")
        state = behind(chip, state, *deeds("c", 4))
        self.assertEqual([event for event in events_from(chip, state) if event[0] == "deed"], [("deed", "c")])
        state = behind(chip, state, *deeds("c", 5), *deeds("b", 4))
        self.assertEqual(raised(step, chip, state, ("deed", "a")), "NotNow(0)")
        self.assertIsNone(raised(step, chip, step(chip, state, ("deed", "b")), ("deed", "a")))

    def test_needs_in_a_ring_and_isles_that_never_sleep(self):
        chip = Chip(Isle("a", needs=("b",)), Isle("b", needs=("a",)), Isle("c", sleeps=False))
        ticks = [("tick", "a"), ("tick", "b"), ("tick", "c"), ("tick", "shore")]
        self.assertEqual(list(events_from(chip, begin(chip))), ticks)
        # In a state that does not come the isle that never sleeps goes on, but for leaving up.
        for phase, lets in (("falling", True), ("asleep", True), ("waking", True), ("up", False)):
            state = ((FIRST, FIRST, row(phase=phase)), ())
            self.assertEqual(raised(step, chip, state, ("deed", "c")), None if lets else "NotNow(0)")

    def test_ticks(self):
        chip = Chip(Isle("a"), Isle("b"))
        state = ((row("still"), row("away", "dust", "dust", "older")), ())
        self.assertEqual(list(events_from(chip, state)), [("deed", "a"), ("deed", "b"), ("tick", "b"), ("tick", "shore")])
        self.assertEqual(raised(step, chip, state, ("tick", "a")), "NotNow(0)")
        self.assertEqual(step(chip, state, ("tick", "b")), state)
        self.assertEqual(step(chip, state, ("tick", "shore")), state)
        self.assertEqual(step(chip, begin(chip), ("tick", "shore")), begin(chip))
        self.assertEqual(step(chip, begin(chip), ("tick", "b"))[0], (FIRST, row(shadow="older")))

    def test_generator_is_fixed_at_the_first_request(self):
        chip = Chip(Isle("a"), Isle("b"))
        one, two = events_from(chip, begin(chip)), events_from(chip, begin(chip))
        self.assertEqual([next(one), next(two), next(one), next(two)], [("deed", "a")] * 2 + [("tick", "a")] * 2)
        self.assertEqual(list(one), list(two))

    def test_values_that_are_no_events(self):
        chip = Chip(Isle("a", turns=(("sleep", 1, 1), ("sleep", 1, 2))), Isle("b"))
        wrong = [value for value in ANY if value != ("deed", "a")]
        wrong += [("deed", "c"), ("deed", "shore"), ("turn", "a"), ("turn", "a", 2), ("turn", "a", -1), ("turn", "a", True),
                  ("turn", "a", False), ("turn", "a", None), ("turn", "b", 0), ("turn", "shore", 0), ("tick", "c"), ("tick", "a", 0),
                  ("deed", "a", 0), ("deed",), ("deed", ("a",)), ("deed", ["a"]), ("turn", "a", "0"), ("turn", ["a"], 0), ["tick", "a"],
                  ("tick", None), ("tick", {}), (("deed",), "a"), ("tick", "shore", 0), ("Deed", "a"), ("deed", True), ("", "a")]
        for value in wrong:
            error = error_of(step, chip, begin(chip), value)
            self.assertIsInstance(error, InvalidEvent)
            self.assertEqual(error.index, 0)
        error = error_of(step, chip, begin(chip), ("turn", "a", 1))
        self.assertIsInstance(error, NotNow)
        self.assertEqual(error.index, 0)


class MarksTest(unittest.TestCase):
    """Each word's change of the marks, by an isle that is dark and one that is not, from all marks."""

    def marks(self, word, flags, leash=(), others=(), **parts):
        """Yields marks and those behind the deed with this word, alone in its row, done from ("falling", 0) or ("waking", 0)."""
        phase = "falling" if word in Isle.SLEEP else "waking"
        isle = Isle("a", leash=leash, **{"sleep" if phase == "falling" else "wake": (word,)}, **parts)
        chip = Chip(isle, *[Isle(name) for name in leash])
        kept = ("clean", "older", "dust") if isle.kept else ("clean",)
        plain = ("clean", "dust") if isle.plain else ("clean",)
        shadow = ("same", "older", "dust") if isle.kept else ("same",)
        for marks in itertools.product(kept, plain, shadow):
            state = ((row(flags, *marks, phase=phase), *others), ())
            yield marks, step(chip, state, ("deed", "a"))[0][0][5:]

    def test_save(self):
        for (kept, plain, shadow), told in self.marks("save", ""):
            self.assertEqual(told, (kept, plain, {"clean": "same"}.get(kept, kept)))
        for _, told in self.marks("save", "away"):
            self.assertEqual(told, ("dust", "dust", "dust"))

    def test_reset(self):
        for (kept, plain, shadow), told in self.marks("reset", ""):
            self.assertEqual(told, (kept, "clean", shadow))
        for (kept, plain, shadow), told in self.marks("reset", "away"):
            self.assertEqual(told, ("dust", "dust", shadow))

    def test_back(self):
        for (kept, plain, shadow), told in self.marks("back", ""):
            self.assertEqual(told, ({"same": "clean"}.get(shadow, shadow), plain, shadow))
        for (kept, plain, shadow), told in self.marks("back", "away"):
            self.assertEqual(told, ("dust", "dust", shadow))

    def test_words_that_change_no_marks_themselves(self):
        for word in ("still", "shut", "open", "go"):
            for marks, told in self.marks(word, ""):
                self.assertEqual(told, marks)
            for marks, told in self.marks(word, "away"):
                self.assertEqual(told, ("dust", "dust", marks[2]))
        for marks, told in self.marks("lit", "away"):
            self.assertEqual(told, marks)
        for flags in ("", "away"):
            for marks, told in self.marks("dark", flags):
                self.assertEqual(told, ("dust", "dust", marks[2]))

    def test_shadows_under_a_dusty_leash(self):
        for word in Isle.SLEEP + Isle.WAKE:
            for flags in ("", "away"):
                for _, told in self.marks(word, flags, leash=("b",), others=(row("away"),)):
                    self.assertEqual(told, ("dust", "dust", "dust"))
            for marks, told in self.marks(word, "away" if word == "lit" else "", leash=("b",), others=(row(),)):
                self.assertEqual(told[2], {"save": {"clean": "same"}.get(marks[0], marks[0])}.get(word, marks[2]))

    def test_isles_without_kept_or_without_plain_registers(self):
        for word in Isle.SLEEP + Isle.WAKE:
            for flags, others in (("", row()), ("away", row()), ("", row("away"))):
                for _, told in self.marks(word, flags, leash=("b",), others=(others,), kept=0):
                    self.assertEqual((told[0], told[2]), ("clean", "same"))
                for _, told in self.marks(word, flags, leash=("b",), others=(others,), plain=0):
                    self.assertEqual(told[1], "clean")
        chip = Chip(Isle("a", kept=0))
        self.assertEqual(step(chip, begin(chip), ("tick", "a")), begin(chip))

    def test_ticks_make_shadows_older(self):
        chip = Chip(Isle("a", leash=("b",)), Isle("b"))
        for shadow, told in (("same", "older"), ("older", "older"), ("dust", "dust")):
            state = ((row(shadow=shadow), FIRST), ())
            self.assertEqual(step(chip, state, ("tick", "a"))[0], (row(shadow=told), FIRST))
        away = ((row("away"), FIRST), ())
        self.assertEqual(step(chip, away, ("tick", "a"))[0], (row("away", "dust", "dust", "same"), FIRST))
        dusty = ((FIRST, row("away", "clean", "dust", "same")), ())
        self.assertEqual(step(chip, dusty, ("tick", "a"))[0], (row("", "dust", "dust", "dust"), row("away", "dust", "dust", "same")))

    def test_dark_isles_get_dust_behind_each_event(self):
        # In a state that does not come isles may be dark and yet clean, until the next event.
        chip = Chip(Isle("a", leash=("b",)), Isle("b", leash=("c",)), Isle("c"), Isle("d", turns=(("sleep", 1, 0),)))
        state = ((FIRST, FIRST, row("away"), row(phase="falling", count=1)), ())
        for event in (("tick", "shore"), ("tick", "a"), ("tick", "d"), ("turn", "d", 0), ("deed", "d")):
            rows = step(chip, state, event)[0]
            self.assertEqual([each[5:] for each in rows[:3]], [("dust",) * 3, ("dust",) * 3, ("dust", "dust", "same")])

    def test_a_deed_acts_with_the_darkness_behind_it(self):
        chip = Chip(Isle("a", sleep=("dark", "save"), wake=("lit", "back")))
        state = step(chip, begin(chip), ("deed", "a"))
        self.assertEqual(state[0][0][5:], ("dust", "dust", "same"))
        state = step(chip, state, ("deed", "a"))
        self.assertEqual(state[0][0][5:], ("dust", "dust", "dust"))
        state = behind(chip, state, *deeds("a", 2))
        self.assertEqual(state[0][0][5:], ("dust", "dust", "dust"))

    def test_the_shadow_stays_while_the_isle_is_away(self):
        chip = Chip(Isle("a"))
        states = [begin(chip)]
        for _ in range(9):
            states.append(step(chip, states[-1], ("deed", "a")))
        self.assertEqual([state[0][0][5:] for state in states[3:]],
                         [FIRST[5:], ("dust", "dust", "same"), ("dust", "dust", "same"), ("dust", "clean", "same"), FIRST[5:], FIRST[5:],
                          FIRST[5:]])
        self.assertEqual([bad_moments(chip, state) for state in states], [()] * 10)


class HeldTest(unittest.TestCase):

    def chip(self, *stations, **parts):
        """d drives x to the shore; o owns, p is a place and l a line."""
        return Chip(Isle("d"), Isle("o", sleep=("shut", "still"), wake=("open", "go"), **parts),
                    Isle("p"), Isle("l"), wires=(Wire("x", "d", "shore", *stations),))

    def state(self, held, d=FIRST, o=FIRST, p=FIRST, l=FIRST):
        return ((d, l, o, p), tuple(held))

    def test_the_mark_that_comes_is_held(self):
        chip = self.chip(Holding("shore", "o"))
        shut = [("clean", FIRST), ("dust", row("away")), ("dust", row("", "dust")), ("dust", row("", "clean", "dust")),
                ("older", row("", "older")), ("dust", row("", "older", "dust"))]
        for mark, driver in shut:
            held = step(chip, self.state(["open"], d=driver), ("deed", "o"))
            self.assertEqual(held[1], (mark,))

    def test_becoming_shut_staying_shut_and_opening(self):
        chip = self.chip(Holding("shore", "o"))
        state = step(chip, begin(chip), ("deed", "o"))
        self.assertEqual(state[1], ("clean",))
        for event in [("deed", "o"), *deeds("d", 9)]:
            state = step(chip, state, event)
            self.assertEqual(state[1], ("clean",))
        self.assertEqual(step(chip, state, ("deed", "o"))[1], ("open",))

    def test_shut_ones_that_are_shut_again_hold_what_they_held(self):
        chip = Chip(Isle("d"), Isle("o", sleep=("still", "shut"), wake=("go",)), wires=(Wire("x", "d", "shore", Holding("shore", "o")),))
        state = behind(chip, begin(chip), *deeds("o", 3))
        self.assertEqual((state[0][1][:4], state[1]), (("up", 0, True, True), ("clean",)))
        state = behind(chip, state, *deeds("d", 4), *deeds("o", 2))
        self.assertEqual(state[1], ("clean",))
        older = (state[0], ("older",))
        self.assertEqual(behind(chip, older, ("tick", "shore"), *deeds("o", 3))[1], ("older",))

    def test_a_dark_place_and_a_dusty_line(self):
        for station, dark in ((Holding("p", "o"), "p"), (Holding("shore", "o", line=("l",)), "l"),
                              (Holding("p", "o", line=("l",)), "l")):
            chip = self.chip(station)
            away = {dark: row("away")}
            # When it becomes shut while it is dusty:
            self.assertEqual(step(chip, self.state(["open"], **away), ("deed", "o"))[1], ("dust",))
            # While it is not shut, nothing is held:
            self.assertEqual(step(chip, self.state(["open"], **away), ("tick", "shore"))[1], ("open",))
            # While it is shut, each event spoils it, and it stays spoilt:
            shut = row("shut", phase="falling", count=1)
            for event in (("tick", "shore"), ("tick", "d"), ("deed", "d"), ("deed", "o")):
                self.assertEqual(step(chip, self.state(["older"], o=shut, **away), event)[1], ("dust",))
                self.assertEqual(step(chip, self.state(["older"], o=shut), event)[1], ("older",))
                self.assertEqual(step(chip, self.state(["dust"], o=shut), event)[1], ("dust",))
            # Also by the event that makes it dusty itself, and that it opens is more than all:
            down = self.state(["clean"], o=shut, **{dark: row(phase="falling", count=3)})
            self.assertEqual(step(chip, down, ("deed", dark))[1], ("dust",))
            opening = self.state(["clean"], o=row("shut", phase="asleep"), **away)
            self.assertEqual(step(chip, opening, ("deed", "o"))[1], ("open",))

    def test_two_clamps_of_one_owner(self):
        chip = self.chip(Clamp("shore", "o"), Holding("shore", "o"))
        self.assertEqual(step(chip, self.state(["open"], d=row("away")), ("deed", "o"))[1], ("clean",))
        chip = self.chip(Holding("p", "o"), Holding("shore", "o"))
        self.assertEqual(step(chip, self.state(["open", "open"], p=row("away")), ("deed", "o"))[1], ("dust", "dust"))
        chip = self.chip(Holding("shore", "o"), Pass("p"), Holding("shore", "o"), Holding("p", "o"), Holding("shore", "o"))
        state = self.state(["open"] * 4, d=row("", "older"), p=row("away"))
        self.assertEqual(step(chip, state, ("deed", "o"))[1], ("older", "dust", "dust", "dust"))
        chip = self.chip(Holding("shore", "o"), Holding("shore", "p"), Holding("shore", "o"))
        state = self.state(["open", "older", "open"], p=row("shut"))
        self.assertEqual(step(chip, state, ("deed", "o"))[1], ("clean", "older", "older"))

    def test_marks_of_the_driver_behind_the_event_are_held(self):
        # The driver is dark, but its marks are not yet dust: they are behind the event.
        chip = Chip(Isle("d", leash=("o",)), Isle("o"), wires=(Wire("x", "d", "shore", Holding("shore", "o")),))
        state = ((FIRST, row("away", phase="falling", count=1)), ("open",))
        self.assertEqual(step(chip, state, ("deed", "o"))[1], ("dust",))

    def test_the_owner_is_the_driver_or_the_reader(self):
        chip = Chip(Isle("a"), Isle("b"), wires=(Wire("x", "a", "b", Holding("shore", "a"), Holding("shore", "b")),))
        state = behind(chip, begin(chip), *deeds("a", 2))
        self.assertEqual(state[1], ("clean", "open"))
        state = behind(chip, state, *deeds("a", 2), *deeds("b", 2))
        self.assertEqual((state[1], bad_moments(chip, state)), (("clean", "clean"), ()))
        state = behind(chip, state, *deeds("a", 4))
        self.assertEqual((state[0][0][3], state[1]), (False, ("open", "clean")))


class BadTest(unittest.TestCase):

    def test_isles(self):
        chip = Chip(Isle("a", leash=("b",)), Isle("b", sleeps=False))
        def told(a, b=FIRST):
            return bad_moments(chip, ((a, b), ()))
        self.assertEqual(told(FIRST), ())
        self.assertEqual(told(row("away")), (("lost", "a"),))
        self.assertEqual(told(row("away still")), ())
        self.assertEqual(told(row(), row("still away")), (("lost", "a"),))
        self.assertEqual(told(row("", "dust")), (("own", "a"),))
        self.assertEqual(told(row("", "clean", "dust")), (("own", "a"),))
        self.assertEqual(told(row("", "dust", "dust", "dust")), (("own", "a"),))
        self.assertEqual(told(row("", "older")), (("older", "a"),))
        self.assertEqual(told(row("", "older", "dust")), (("older", "a"), ("own", "a")))
        self.assertEqual(told(row("", "clean", "clean", "dust")), ())
        self.assertEqual(told(row("still", "older", "dust", "dust")), ())
        self.assertEqual(told(row("away", "older", "dust"), row("away", "dust", "dust")),
                         (("lost", "a"), ("lost", "b"), ("older", "a"), ("own", "a"), ("own", "b")))

    def test_wires(self):
        chip = Chip(Isle("a"), Isle("b"), wires=(Wire("x", "a", "b"), Wire("y", "a", "shore"), Wire("w", "shore", "b", Pass("a"))))
        def told(a, b=FIRST):
            return bad_moments(chip, ((a, b), ()))
        self.assertEqual(told(row("still away", "dust", "dust")), (("wire", "w"), ("wire", "x"), ("wire", "y")))
        self.assertEqual(told(row("still", "older")), (("wire", "x"), ("wire", "y")))
        self.assertEqual(told(row("still", "older"), row("still")), (("wire", "y"),))
        self.assertEqual(told(row("still away"), row("still away")), (("wire", "y"),))
        self.assertEqual(told(row("still", "older"), row("away")), (("lost", "b"), ("wire", "x"), ("wire", "y")))

    def test_wires_end_with_what_stations_hand_on(self):
        wires = (Wire("x", "a", "shore", Holding("shore", "b"), Clamp("shore", "c")), Wire("y", "a", "shore", Holding("shore", "b")))
        chip = Chip(Isle("a"), Isle("b"), Isle("c"), wires=wires)
        dust = row("still", "dust")
        for b, c, held, told in ((FIRST, FIRST, ("open", "open"), "xy"), (row("shut"), FIRST, ("clean", "dust"), "y"),
                                 (row("shut"), FIRST, ("older", "clean"), "x"), (row("shut"), row("shut"), ("dust", "older"), "y")):
            self.assertEqual(bad_moments(chip, ((dust, b, c), held)), tuple(("wire", name) for name in told))

    def test_is_bad(self):
        chip = Chip(Isle("x"), Isle("a"), wires=(Wire("x", "a", "shore"), Wire("a", "shore", "x")))
        state = ((FIRST, row("", "older")), ())
        self.assertEqual(bad_moments(chip, state), (("older", "x"),))
        self.assertEqual([is_bad(chip, state, question) for question in chip.questions], [False, True, False, False])
        state = ((row("still", "dust"), FIRST), ())
        self.assertEqual([is_bad(chip, state, question) for question in chip.questions], [False, False, False, True])
        for marks, flags in ((("dust", "clean"), ""), (("clean", "dust"), ""), (("clean", "clean"), "away")):
            self.assertIs(is_bad(chip, ((row(flags, *marks), FIRST), ()), ("isle", "a")), True)

    def test_values_that_are_no_questions(self):
        chip = Chip(Isle("a"), wires=(Wire("x", "a", "shore"),))
        for value in ANY + [("isle", "x"), ("wire", "a"), ("isle", "shore"), ["isle", "a"], ("isle", "a", "a"), ("isle", ["a"]), ("isle",),
                            ("lost", "a"), ("isle", True), "isle a", {"isle": "a"}, (("isle", "a"),), ("wire", "x", None)]:
            error = error_of(is_bad, chip, begin(chip), value)
            self.assertIsInstance(error, NoQuestion)
            self.assertEqual(error.value, value)


class AllStatesTest(unittest.TestCase):

    def test_against_a_second_telling_of_the_document(self):
        for seed in range(150):
            dice = random.Random(seed)
            chip = made_chip(dice, 4, 4, turns=3, leash=2, needs=2)
            self.assertEqual(begin(chip), oracle.first(chip))
            for _ in range(10):
                state = made_state(dice, chip)
                kept = copied(state)
                every = oracle.events(chip, state)
                self.assertEqual(list(events_from(chip, state)), every)
                self.assertEqual(bad_moments(chip, state), oracle.bad(chip, state))
                self.assertEqual([is_bad(chip, state, question) for question in chip.questions],
                                 [oracle.is_bad(chip, state, question) for question in chip.questions])
                for event in every:
                    self.assertEqual(step(chip, state, event), oracle.step(chip, state, event), (seed, state, event))
                self.assertEqual(state, kept)


if __name__ == "__main__":
    unittest.main()
