"""[20], duskisles/menders.py and what serves it: which questions are bad with which spots left."""

import random
import unittest

from duskisles.chips import Chip
from duskisles.errors import TooMany
from duskisles.isles import Isle
from duskisles.judge import judged
from duskisles.menders import Mender
from duskisles.props import plan_with, spot_isles, with_propped
from duskisles.runcheck import lets_run
from duskisles.spots import spots
from duskisles.stations import Clamp, Holding, Pass
from duskisles.verdict import verdict
from duskisles.wires import Wire
from made import made_chip

MOST = 3000


def chips(seed, count, **kinds):
    """Chips made by chance with 1 to 5 spots, and not too many rows."""
    dice = random.Random(seed)
    found = []
    while len(found) < count:
        chip = made_chip(dice, **kinds)
        try:
            if 1 <= len(spots(chip)) <= 5:
                for question in chip.questions:
                    judged(chip, question, most=MOST)
                found.append(chip)
        except TooMany:
            pass
    return found


def bad_questions(mender, chip, left):
    """The questions that are bad if these spots are left, by all rows that come."""
    other = with_propped(chip, [spot for index, spot in enumerate(mender.known) if not left >> index & 1])
    return [question for question in other.questions if judged(other, question)[0] == "bad"]


class MendersTest(unittest.TestCase):

    def compare(self, chip, dice):
        mender, other = Mender(chip, spots(chip)), Mender(chip, spots(chip))
        masks = list(range(mender.every_bit + 1))
        dice.shuffle(masks)
        bad = {}
        for left in masks:
            bad[left] = bad_questions(mender, chip, left)
            told = [propping.question for propping in mender.propping_row if propping.is_bad(left)]
            self.assertEqual(told, bad[left], (str(chip), left))
            self.assertIs(other.is_bad_once(left), len(told) > 0)
            self.assertIs(other.is_bad(left), len(told) > 0)
        for propping in other.propping_row:
            rows = [left for left in bad if propping.question in bad[left]]
            self.assertEqual(sorted(propping.least_bad()), [left & propping.own_bits for left in self.least(rows)])
        rows = [left for left in bad if bad[left]]
        self.assertEqual(sorted(other.least_bad()), self.least(rows))
        return len(rows), len(masks)

    def least(self, rows):
        """Those of these sets, as bits, within which there is no other one, ascending."""
        return sorted(left for left in rows if not any(row != left and row & left == row for row in rows))

    def test_chips_by_chance(self):
        dice = random.Random(7)
        some = 0
        for kinds in ({"whole": 1, "turns": 0}, {"whole": 0.9, "turns": 1, "needs": 2, "leash": 2},
                      {"isles": 2, "wires": 2, "whole": 0.6}, {"isles": 4, "leash": 2, "whole": 1}):
            for chip in chips(repr(kinds), 40, **kinds):
                bad, count = self.compare(chip, dice)
                some += 0 < bad < count
        self.assertTrue(some > 40, some)

    def test_ways_of_dust(self):
        still = Isle("b", sleep=("still",), wake=("go",))
        ring = (Isle("a", leash=("c",)), still, Isle("c", leash=("d",)), Isle("d", leash=("a",)))
        for stations in ((), (Pass("a"),), (Clamp("a", "b", line=("d",)),), (Holding("c", "a"),),
                         (Pass("c"), Clamp("shore", "a", line=("c",))), (Holding("c", "a"), Clamp("b", "b"))):
            for ends in (("a", "b"), ("shore", "b"), ("b", "shore")):
                self.compare(Chip(*ring, wires=(Wire("x", *ends, *stations),)), random.Random(0))

    def test_plans_without_chips(self):
        for chip in chips(3, 30, whole=0.8):
            rows = spot_isles(chip, spots(chip))
            for left in range(1 << len(rows)):
                plan = plan_with(chip.plan(), rows, left, chip.plan().tracks)
                other = with_propped(chip, [spot for bit, spot, _ in rows if not left & bit]).plan()
                self.assertEqual([plan.leash_masks, plan.under_masks, plan.sleepless_mask],
                                 [other.leash_masks, other.under_masks, other.sleepless_mask])
                self.assertEqual([(track.wire_name, track.power_steps(), track.first_held) for track in plan.tracks],
                                 [(track.wire_name, track.power_steps(), track.first_held) for track in other.tracks])

    def test_runs_and_tables(self):
        for chip in chips(4, 30, whole=0.9, turns=0):
            mender = Mender(chip, spots(chip))
            for left in range(mender.every_bit + 1):
                other = with_propped(chip, [spot for index, spot in enumerate(mender.known) if not left >> index & 1])
                told = verdict(other)
                if mender.is_bad(left):
                    self.assertEqual(("bad", *mender.harm_of(left)), told)
                    self.assertIs(lets_run(other, told[1], told[2]), True)
                    self.assertIs(mender.shows_bad(left, told[1], told[2]), True)
                    self.assertIs(mender.shows_bad(left, told[1], told[2][:-1]), False)
                else:
                    self.assertEqual(("safe", mender.tables_of(left)), told)
                    self.assertIs(mender.shows_safe(left, told[1]), True)
                    self.assertIs(mender.shows_safe(left, told[1][:-1]), False)

    def test_nothing_is_changed(self):
        for chip in chips(5, 10, whole=0.9):
            before = str(chip)
            mender = Mender(chip, spots(chip))
            mender.least_bad()
            self.assertEqual(str(chip), before)
            self.assertEqual(mender.known, spots(chip))


if __name__ == "__main__":
    unittest.main()
