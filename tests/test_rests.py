"""[12], [20], [21], duskisles/rests.py: isles that rest, and those that may be switched off."""

import itertools
import random
import unittest

import oraclepapers
from duskisles.chips import Chip
from duskisles.errors import NoIsle, NotSafe
from duskisles.isles import Isle
from duskisles.rests import greatest, may_sleep, rested, sleepers
from duskisles.runcheck import lets_run
from duskisles.stations import Clamp, Pass
from duskisles.wires import Wire
from made import made_chip
from values import ANY, error_of

SPOILT = Chip(Isle("a"), Isle("b"), Isle("c"), wires=(Wire("x", "a", "b", Clamp("b", "a", line=("c",))),))
DARK = {"kept": 0, "sleep": ("still", "dark"), "wake": ("lit", "reset", "go")}

# c harms d, but only if b, which needs it, sleeps too: with b resting, c never leaves up.
RIVALS = Chip(Isle("b", **DARK, needs=("c",)), Isle("c", **DARK), Isle("d", **DARK), wires=(Wire("x", "c", "d"),))


def resting(chip, names):
    """The chip in which these rest, by the second telling."""
    return Chip(*[chip[name].changed(sleeps=chip[name].sleeps and name not in names) for name in chip.names],
                wires=tuple(chip.wire(name) for name in chip.wires), shore=chip.shore)


def others(chip, names):
    return [name for name in chip.names if name not in names]


class RestsTest(unittest.TestCase):

    def search(self, chip):
        """Compares what is told of a chip with all sets of its isles; returns the greatest sets."""
        sets = oraclepapers.subsets(chip.names)
        safe = {row: oraclepapers.is_safe(resting(chip, others(chip, row))) for row in sets}
        for row in sets:
            self.assertIs(may_sleep(chip, *row), safe[row])
            self.assertEqual(rested(chip, *row), resting(chip, row))
            self.chosen(chip, row, safe)
        for row, other in itertools.product(sets, sets):
            self.assertFalse(set(row) <= set(other) and safe[other] and not safe[row])
        found = sorted(row for row in sets if safe[row] and not any(set(row) < set(other) and safe[other] for other in sets))
        self.assertEqual(list(greatest(chip)), found)
        self.assertTrue(safe[()])
        return found

    def chosen(self, chip, row, safe):
        """Compares what is told of a set that is passed."""
        if not safe[row]:
            error = error_of(sleepers, chip, *row)
            self.assertIsInstance(error, NotSafe)
            self.assertIs(lets_run(resting(chip, others(chip, row)), error.question, error.steps), True)
            return
        names = list(row)
        for name in chip.names:
            if name not in names and safe[tuple(sorted([*names, name]))]:
                names.append(name)
        told, reasons = sleepers(chip, *row)
        self.assertEqual((told, [each[0] for each in reasons]), (tuple(sorted(names)), others(chip, names)))
        self.assertIs(type(reasons), tuple)
        for name, question, events in reasons:
            self.assertIs(lets_run(resting(chip, others(chip, [*names, name])), question, events), True)

    def test_chips_by_chance_against_a_search_through_all_states(self):
        counts = {}
        for seed in range(240):
            chip = made_chip(random.Random(seed), 2, 2, turns=0, whole=0.2)
            if sum(len(chip[name].sleep + chip[name].wake) for name in chip.names) <= 12:
                found = self.search(chip)
                counts[len(found)] = counts.get(len(found), 0) + 1
        self.assertTrue(counts[1] > 60 and counts[2] > 0, counts)

    def test_two_sets_to_which_none_can_be_added(self):
        self.assertEqual(self.search(RIVALS), [("b", "d"), ("c", "d")])
        self.assertEqual((sleepers(RIVALS)[0], sleepers(RIVALS, "c")[0], sleepers(RIVALS, "d", "c")[0]), (("b", "d"), ("c", "d"), ("c", "d")))
        self.assertEqual([row[:2] for row in sleepers(RIVALS, "c")[1]], [("b", ("wire", "x"))])
        self.assertEqual(error_of(sleepers, RIVALS, "c", "b").question, ("wire", "x"))

    def test_leashes_and_stations(self):
        pair = Chip(Isle("a", **DARK, leash=("b",)), Isle("b", **DARK))
        self.assertEqual((self.search(pair), error_of(sleepers, pair, "b").question), ([("a",)], ("isle", "a")))
        chip = Chip(Isle("a", kept=0, sleep=("still", "shut"), wake=("open", "go")), Isle("b", **DARK), wires=(Wire("x", "shore", "a", Pass("b")),))
        self.assertEqual(self.search(chip), [("a",)])

    def test_the_example(self):
        self.assertEqual((sleepers(SPOILT)[0], [row[:2] for row in sleepers(SPOILT)[1]], list(greatest(SPOILT))),
                         (("a", "b"), [("c", ("wire", "x"))], [("a", "b")]))
        self.assertEqual((may_sleep(SPOILT, "c"), may_sleep(SPOILT, "a", "b"), may_sleep(SPOILT)), (False, True, True))

    def test_passed_twice_and_in_any_order(self):
        self.assertEqual(sleepers(SPOILT, "b", "a", "b"), sleepers(SPOILT, "a", "b"))
        self.assertEqual(rested(SPOILT, "c", "a", "c"), rested(SPOILT, "a", "c"))
        self.assertIs(may_sleep(SPOILT, "b", "b"), True)

    def test_rested(self):
        chip = rested(SPOILT, "b")
        self.assertEqual([chip[name].sleeps for name in "abc"], [True, False, True])
        self.assertEqual((rested(SPOILT), rested(chip, "b")), (SPOILT, chip))

    def test_no_isles(self):
        for value in ANY + ["z", "x"]:
            if value not in ("a", "b"):
                for work in (rested, may_sleep, sleepers):
                    for some in ((value,), ("c", value, None), ("c", "a", value)):
                        error = error_of(work, SPOILT, *some)
                        self.assertIsInstance(error, NoIsle)
                        self.assertIs(error.which, value)

    def test_five_isles(self):
        chip = SPOILT.with_isles(Isle("d"), Isle("e", kept=0, sleep=("dark",), wake=("lit",)))
        self.assertEqual(list(greatest(chip)), [("a", "b", "d")])
        self.assertEqual([row[0] for row in sleepers(chip)[1]], ["c", "e"])

    def test_generators_by_turns(self):
        self.assertEqual(list(zip(greatest(RIVALS), greatest(RIVALS))), [(("b", "d"),) * 2, (("c", "d"),) * 2])

    def test_lists_belong_to_the_caller_and_chips_stay(self):
        before = str(SPOILT)
        sleepers(SPOILT)[1][0][2].clear()
        self.assertNotEqual(sleepers(SPOILT)[1][0][2], [])
        self.assertEqual(str(SPOILT), before)


if __name__ == "__main__":
    unittest.main()
