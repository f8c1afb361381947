"""[9], [11], [12], duskisles/walks.py: walks along wires."""

import unittest

from duskisles.chips import Chip
from duskisles.errors import NoWire
from duskisles.isles import Isle
from duskisles.stations import Clamp, Holding, Pass
from duskisles.walks import along, source, walk
from duskisles.wires import Wire
from values import ANY, error_of

CHIP = Chip(
    Isle("a"), Isle("b", leash=("d",)), Isle("c"), Isle("d"),
    wires=(Wire("x", "a", "b", Pass("a"), Clamp("b", "a", gives=1, line=("c",)), Holding("shore", "b", line=("d", "c")), Pass("shore")),
           Wire("w", "shore", "a", Holding("c", "c"), Holding("a", "a", line=("b",))),
           Wire("v", "d", "shore"),
           Wire("y", "c", "a", Holding("d", "d"), Clamp("shore", "c"))))


def state_of(held=("open",) * 4, **isles):
    """A state of CHIP: all is as at first but the flags and marks that are given, as "shut away kept=dust"."""
    rows = []
    for name in CHIP.names:
        words = isles.get(name, "").split()
        told = dict(word.split("=") for word in words if "=" in word)
        rows.append((told.get("phase", "up"), int(told.get("count", 0)), "still" not in words, "shut" in words, "away" in words,
                     told.get("kept", "clean"), told.get("plain", "clean"), told.get("shadow", "same")))
    return tuple(rows), tuple(held)


class AlongTest(unittest.TestCase):

    def told(self, name, right, **given):
        self.assertEqual(along(CHIP, name, **given), tuple(right.split()))
        lists = {key: list(value) if isinstance(value, tuple) and key != "held" else value for key, value in given.items()}
        self.assertEqual(along(CHIP, name, **lists), tuple(right.split()))

    def test_what_comes_is_handed_on(self):
        for mark in ("clean", "older", "dust"):
            self.told("x", " ".join([mark] * 5), begins=mark, held=("open",))
            self.told("v", mark, begins=mark)
            self.told("x", " ".join([mark] * 5), begins=mark, held=("open",), shut=("c", "d"))

    def test_dark_places(self):
        self.told("x", "clean dust dust dust dust", begins="clean", dark=("a",), held=("open",))
        self.told("x", "clean clean dust dust dust", begins="clean", dark=("b",), held=("open",))
        self.told("x", "clean dust clean clean clean", begins="clean", dark=("a",), shut=("a",), held=("open",))
        self.told("x", "clean clean dust dust dust", begins="clean", dark=("b",), shut=("a",), held=("open",))
        self.told("w", "older dust dust", begins="older", dark=("c",), held=("open", "open"))
        self.told("w", "older dust dust", begins="older", dark=("c",), shut=("c",), held=("clean", "open"))
        self.told("w", "older older dust", begins="older", dark=("a",), shut=("a",), held=("open", "clean"))

    def test_dusty_lines(self):
        self.told("x", "clean clean dust dust dust", begins="clean", dark=("c",), held=("open",))
        self.told("x", "clean clean clean dust dust", begins="clean", dark=("d",), held=("open",))
        self.told("x", "clean clean dust dust dust", begins="clean", dark=("c", "d"), shut=("a", "b"), held=("clean",))
        self.told("w", "clean clean dust", begins="clean", dark=("b",), shut=("a",), held=("open", "older"))

    def test_owners_that_are_shut(self):
        self.told("x", "dust dust clean clean clean", begins="dust", shut=("a",), held=("open",))
        for mark in ("clean", "older", "dust"):
            self.told("x", f"clean clean clean {mark} {mark}", begins="clean", shut=("b",), held=(mark,))
            self.told("x", f"dust dust clean {mark} {mark}", begins="dust", shut=("b", "a", "c", "b"), held=(mark,))

    def test_each_holding_clamp_has_its_mark(self):
        self.told("w", "dust older clean", begins="dust", shut=("a", "c"), held=("older", "clean"))
        self.told("w", "dust dust clean", begins="dust", shut=("a",), held=("open", "clean"))
        self.told("w", "dust older older", begins="dust", shut=("c",), held=("older", "open"))

    def test_all_may_be_left_out_but_the_mark_behind_the_driver(self):
        self.told("x", "older older older older older", begins="older")
        self.told("w", "dust dust dust", begins="dust")

    def test_names_that_are_no_wires(self):
        for value in ANY + ["c", "shore", "z"]:
            for work in (lambda name: along(CHIP, name, begins="clean"), lambda name: walk(CHIP, name, state_of()),
                         lambda name: source(CHIP, name, state_of())):
                error = error_of(work, value)
                self.assertEqual((type(error), error.which), (NoWire, value))


class WalkTest(unittest.TestCase):

    def told(self, name, right, cause, held=("open",) * 4, **isles):
        state = state_of(held, **isles)
        self.assertEqual(walk(CHIP, name, state), tuple(right.split()))
        self.assertEqual(source(CHIP, name, state), cause)
        self.assertEqual(state, state_of(held, **isles))

    def test_the_mark_behind_the_driver(self):
        driver = ("driver",)
        self.told("x", "clean clean clean clean clean", driver)
        self.told("v", "clean", driver)
        self.told("w", "clean clean clean", driver)
        for words, mark in (("kept=older", "older"), ("kept=dust", "dust"), ("plain=dust", "dust"), ("shadow=dust", "clean"),
                            ("kept=older plain=dust", "dust"), ("kept=dust plain=dust", "dust"), ("away", "dust"),
                            ("away kept=older", "dust"), ("shadow=older", "clean"), ("still shut", "clean")):
            self.told("v", mark, driver, d=words)

    def test_a_driver_that_is_dark_by_its_leash(self):
        chip = CHIP.with_wires(Wire("v", "b", "shore"))
        self.assertEqual(walk(chip, "v", state_of(d="away")), ("dust",))
        self.assertEqual(walk(chip, "v", state_of(b="away")), ("dust",))
        self.assertEqual(walk(chip, "v", state_of(a="away")), ("clean",))

    def test_the_shore_is_always_clean(self):
        self.told("w", "clean clean clean", ("driver",), b="kept=dust plain=dust", d="kept=dust", held=("open",) * 4)

    def test_places_that_are_dark_by_leashes(self):
        self.told("x", "clean clean dust dust dust", ("line", 2), d="away")
        self.told("x", "clean clean dust dust dust", ("place", 1), b="away")
        self.told("x", "dust dust dust dust dust", ("place", 0), a="away")
        self.told("x", "dust dust clean clean clean", ("gives", 1), a="away shut")

    def test_the_first_reason_of_a_station_is_told(self):
        # Its place is dark, its line is dusty and its owner is shut; then each one less.
        chip = Chip(Isle("a"), Isle("b"), Isle("c"), wires=(Wire("x", "b", "shore", Clamp("a", "b", line=("c",))),
                                                            Wire("y", "b", "shore", Holding("a", "b", line=("c",)))))
        first = ("up", 0, True, False, False, "clean", "clean", "same")
        for away, shut, cause in (("ac", "b", "place"), ("a", "", "place"), ("ac", "", "place"), ("c", "b", "line"),
                                  ("c", "", "line"), ("", "b", "shut"), ("", "", None)):
            rows = tuple((*first[:3], name in shut, name in away, *first[5:]) for name in "abc")
            state = (rows, ("older",) if shut else ("open",))
            for name, word in (("x", "gives"), ("y", "held")):
                right = ("driver",) if cause is None else (word if cause == "shut" else cause, 0)
                self.assertEqual(source(chip, name, state), right)

    def test_the_last_reason_along_the_wire_is_told(self):
        self.told("w", "clean dust clean", ("held", 1), held=("open", "clean", "open", "open"), c="away", a="shut")
        self.told("w", "clean dust dust", ("place", 0), c="away")
        self.told("w", "clean older older", ("held", 0), held=("older", "open", "open", "open"), c="shut")
        self.told("x", "clean clean clean older older", ("held", 2), held=("open", "open", "older", "open"), a="shut", b="shut")
        self.told("x", "older older clean clean clean", ("gives", 1), a="shut kept=older")
        self.told("y", "clean dust clean", ("gives", 1), held=("open", "open", "open", "dust"), c="shut", d="shut")
        self.told("y", "clean dust dust", ("held", 0), held=("open", "open", "open", "dust"), d="shut")

    def test_held_marks_are_those_of_the_wire(self):
        held = ("older", "dust", "clean", "older")
        every = {name: "shut" for name in "abcd"}
        self.told("w", "clean older dust", ("held", 1), held=held, **every)
        self.told("x", "clean clean clean clean clean", ("held", 2), held=held, **every)
        self.told("y", "clean older clean", ("gives", 1), held=held, **every)
        self.told("v", "clean", ("driver",), held=held, **every)

    def test_states_that_do_not_come(self):
        self.told("x", "older older older older older", ("driver",), a="phase=waking count=4 kept=older shadow=dust")
        self.told("v", "dust", ("driver",), d="phase=asleep plain=dust")

    def test_keywords(self):
        self.assertEqual(walk(chip=CHIP, name="v", state=state_of()), ("clean",))
        self.assertEqual(source(chip=CHIP, name="v", state=state_of()), ("driver",))


if __name__ == "__main__":
    unittest.main()
