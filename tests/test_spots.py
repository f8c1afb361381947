"""[20], duskisles/spots.py: the places where the power of isles is used, and chips that are propped there."""

import itertools
import random
import unittest

import oracle
import oraclepapers
from duskisles.chips import Chip
from duskisles.errors import NoSpot
from duskisles.isles import Isle
from duskisles.spots import propped, spots
from duskisles.stations import Clamp, Holding, Pass
from duskisles.verdict import is_safe
from duskisles.wires import Wire
from made import made_chip
from values import ANY, error_of

FULL = Chip(Isle("b", leash=("c", "a"), needs=("a",)), Isle("a", leash=("c",)), Isle("c", kept=2, sleeps=False),
            wires=(Wire("y", "a", "shore", Pass("shore"), Clamp("b", "a", gives=1, line=("c", "b"))),
                   Wire("x", "shore", "b", Holding("c", "b", line=("a", "c", "b")), Pass("a"), Clamp("shore", "c"), Holding("shore", "a"), Pass("shore"))),
            shore=2)


class SpotsTest(unittest.TestCase):

    def test_all_spots(self):
        self.assertEqual(spots(FULL), (
            ("leash", "a", 0), ("leash", "b", 0), ("leash", "b", 1), ("line", "x", 0, 0), ("line", "x", 0, 1), ("line", "x", 0, 2),
            ("line", "y", 1, 0), ("line", "y", 1, 1), ("station", "x", 0), ("station", "x", 1), ("station", "y", 1)))
        self.assertEqual(spots(Chip(Isle("a"), Isle("b", needs=("a",)), wires=(Wire("x", "a", "b", Pass("shore"), Clamp("shore", "a")),))), ())

    def test_by_chance(self):
        for seed in range(200):
            chip = made_chip(random.Random(seed), 4, 4, leash=3)
            self.assertEqual(spots(chip), tuple(oraclepapers.spots(chip)))

    def test_propped(self):
        a, b, c = Isle("a", leash=("c",)), Isle("b", leash=("c", "a"), needs=("a",)), Isle("c", kept=2, sleeps=False)
        self.assertEqual(propped(FULL), FULL)
        for spot, isle in ((("leash", "a", 0), a.changed(leash=())), (("leash", "b", 0), b.changed(leash=("a",))),
                           (("leash", "b", 1), b.changed(leash=("c",)))):
            self.assertEqual(propped(FULL, spot), FULL.with_isles(isle))
        for spot, index, station in ((("line", "x", 0, 0), 0, Holding("c", "b", line=("c", "b"))), (("line", "x", 0, 1), 0, Holding("c", "b", line=("a", "b"))),
                                     (("line", "x", 0, 2), 0, Holding("c", "b", line=("a", "c"))), (("station", "x", 0), 0, Holding("shore", "b", line=("a", "c", "b"))),
                                     (("station", "x", 1), 1, Pass("shore"))):
            rows = list(FULL.wire("x").stations)
            rows[index] = station
            self.assertEqual(propped(FULL, spot), FULL.with_wires(Wire("x", "shore", "b", *rows)))
        for spot, station in ((("line", "y", 1, 0), Clamp("b", "a", gives=1, line=("b",))), (("station", "y", 1), Clamp("shore", "a", gives=1, line=("c", "b")))):
            self.assertEqual(propped(FULL, spot), FULL.with_wires(Wire("y", "a", "shore", Pass("shore"), station)))

    def test_all_at_once(self):
        # The indexes are those of the chip that is passed.
        both = propped(FULL, ("line", "x", 0, 2), ("leash", "b", 1), ("line", "x", 0, 0), ("leash", "b", 0), ("station", "x", 0))
        self.assertEqual((both["b"].leash, both.wire("x").stations[0]), ((), Holding("shore", "b", line=("c",))))
        self.assertEqual(spots(propped(FULL, *spots(FULL))), ())
        self.assertEqual(propped(FULL, ("line", "x", 0, 0), ("line", "x", 0, 0)), propped(FULL, ("line", "x", 0, 0)))

    def test_by_chance_against_the_second_telling(self):
        for seed in range(200):
            dice = random.Random(seed)
            chip = made_chip(dice, 3, 3, leash=2)
            some = dice.choices(spots(chip), k=dice.randint(0, 4)) if spots(chip) else []
            self.assertEqual(propped(chip, *some), oraclepapers.propped(chip, some))

    def test_what_is_no_spot(self):
        good = ("leash", "a", 0)
        wrong = ANY + [("leash", "a", 1), ("leash", "c", 0), ("leash", "z", 0), ("leash", "a", False), ("leash", "b", True), ("leash", "a"), ["leash", "a", 0],
                       ("station", "x", 2), ("station", "x", 4), ("station", "y", 0), ("station", "z", 0), ("station", "x", True), ("station", "x", False),
                       ("line", "x", 0, 3), ("line", "x", 0, False), ("line", "x", False, 1), ("line", "x", 1, 0), ("line", "y", True, 0), ("line", "y", 0, 0),
                       ("line", "x", 0), ("line", "x", 0, 0, 0), ("station", "x", -1), ("lease", "a", 0), ("station", "a", 0), ("leash", "x", 0), ("leash", "shore", 0)]
        for value in wrong:
            for some in ((value,), (good, value), (good, value, None)):
                error = error_of(propped, FULL, *some)
                self.assertIsInstance(error, NoSpot)
                self.assertIs(error.value, value)

    def test_a_chip_without_the_spot_any_more(self):
        once = propped(FULL, ("leash", "a", 0))
        self.assertIsInstance(error_of(propped, once, ("leash", "a", 0)), NoSpot)
        self.assertEqual(propped(once, ("leash", "b", 1)), propped(FULL, ("leash", "a", 0), ("leash", "b", 1)))

    def test_chips_stay(self):
        before = str(FULL)
        propped(FULL, *spots(FULL))
        self.assertEqual(str(FULL), before)

    def test_propping_more_spots_never_makes_a_safe_chip_unsafe(self):
        both = 0
        for seed in range(240):
            dice = random.Random(seed)
            chip = made_chip(dice, 2, 2, whole=0.5, leash=1)
            if sum(len(chip[name].sleep + chip[name].wake) for name in chip.names) > 11 or len(spots(chip)) > 4:
                continue
            safe = {row: is_safe(propped(chip, *row)) for row in oraclepapers.subsets(spots(chip))}
            for row, other in itertools.product(safe, safe):
                self.assertFalse(set(row) < set(other) and safe[row] and not safe[other])
            both += len(set(safe.values())) == 2
            self.assertIs(safe[()], not any(oracle.bad(chip, state) for state in oracle.every_state(chip)))
        self.assertGreater(both, 5)


if __name__ == "__main__":
    unittest.main()
