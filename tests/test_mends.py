"""[12], [17], [20], duskisles/mends.py: which spots must be powered by the shore for a chip to be safe."""

import itertools
import random
import unittest

import oraclepapers
from bent import bent
from duskisles.chips import Chip
from duskisles.duals import are_dual, least_covers, within_none
from duskisles.errors import NoSpot, NotSafe, TooMany
from duskisles.isles import Isle
from duskisles.mends import clauses, fewest, lets_mends, mend_paper, mending, mends
from duskisles.runcheck import lets_run
from duskisles.spots import propped, spots
from duskisles.stations import Clamp, Pass
from duskisles.verdict import is_safe, verdict
from duskisles.wires import Wire
from made import made_chip
from values import ANY, copied, error_of

SMALL = {"kept": 0, "sleep": ("dark",), "wake": ("lit",), "sleeps": True}
SPOILT = Chip(Isle("a"), Isle("b"), Isle("c"), wires=(Wire("x", "a", "b", Clamp("b", "a", line=("c",))),))
SAFE = Chip(Isle("a"), Isle("b"), wires=(Wire("x", "a", "b", Clamp("b", "a")),))
LOST = Chip(Isle("a", **SMALL))
LINE = ("line", "x", 0, 0)


DARK = Isle("b", kept=0, sleep=("still", "dark"), wake=("lit", "reset", "go"))
TWO = Chip(Isle("a", sleeps=False), DARK, wires=(Wire("x", "shore", "a", Clamp("a", "b", line=("b",)), Pass("b")),))

# d is dark only if both leashes are there: a, which b does not leave awake, is never away itself.
EITHER = Chip(Isle("a", kept=0, leash=("b",), needs=("b",), sleep=("still",), wake=("reset", "go")), DARK,
              Isle("d", kept=0, leash=("a",), sleeps=False))


def hanging(count):
    """A chip with so many passes on an isle that goes dark, between two that never sleep."""
    passes = [Pass("b") for _ in range(count)]
    wires = [Wire.of("x" + letter, "a", "c", passes[index * 5:index * 5 + 5]) for index, letter in enumerate("abc")]
    return Chip(Isle("a", sleeps=False), DARK, Isle("c", sleeps=False), wires=tuple(wires))


class MendsTest(unittest.TestCase):

    def search(self, chip):
        """Compares what is told of a chip with all sets of its spots; returns the number of clauses and of least sets."""
        known = spots(chip)
        sets = oraclepapers.subsets(known)
        safe = {row: oraclepapers.is_safe(oraclepapers.propped(chip, row)) for row in sets}
        others = {row: tuple(spot for spot in known if spot not in row) for row in sets}
        good = oraclepapers.least([row for row in sets if safe[row]])
        needed = oraclepapers.least([row for row in sets if not safe[others[row]]])
        self.assertEqual(clauses(chip), tuple(needed))
        for row in sets:
            self.assertIs(mends(chip, *row), safe[row])
            self.assertEqual(safe[row], all(set(row) & set(other) for other in needed))
        thing = mend_paper(chip)
        self.assertEqual(([row[0] for row in thing[0]], [row[0] for row in thing[1]]), (good, needed))
        self.assertIs(lets_mends(chip, thing), True)
        self.assertTrue(oraclepapers.is_mends_paper(chip, thing))
        if good:
            self.assertEqual(fewest(chip), good[0])
            self.mended(chip, known)
        else:
            self.unmended(chip)
        return len(needed), len(good)

    def mended(self, chip, known):
        found = mending(chip)
        row = list(known)
        for spot in known:
            fewer = [other for other in row if other != spot]
            row = fewer if mends(chip, *fewer) else row
        self.assertEqual([each[0] for each in found], row)
        for spot, question, events in found:
            self.assertIs(lets_run(propped(chip, *[other for other in row if other != spot]), question, events), True)

    def unmended(self, chip):
        for work in (mending, fewest):
            error = error_of(work, chip)
            self.assertIsInstance(error, NotSafe)
            self.assertIs(lets_run(propped(chip, *spots(chip)), error.question, error.steps), True)
        self.assertEqual(clauses(chip), ((),))

    def test_all_sets_of_spots_against_a_search_through_all_states(self):
        found = {}
        for seed in range(260):
            chip = made_chip(random.Random(seed), 2, 2, turns=0, whole=0.5 if seed % 2 else 0.1)
            if sum(len(chip[name].sleep + chip[name].wake) for name in chip.names) <= 11 and len(spots(chip)) <= 4:
                counts = self.search(chip)
                found[counts] = found.get(counts, 0) + 1
        self.assertTrue(found[1, 0] > 20 and found[0, 1] > 20 and sum(found[counts] for counts in found if min(counts) > 0) > 5, found)

    def test_two_spots(self):
        self.assertEqual((self.search(TWO), clauses(TWO)), ((2, 1), ((("line", "x", 0, 0),), (("station", "x", 1),))))

    def test_one_spot_or_another(self):
        one, other = ("leash", "a", 0), ("leash", "d", 0)
        self.assertEqual((self.search(EITHER), clauses(EITHER)), ((1, 2), ((one, other),)))
        self.assertEqual((fewest(EITHER), [row[0] for row in mending(EITHER)]), ((one,), [other]))
        both = EITHER.with_wires(Wire("x", "shore", "d", Pass("b")))
        self.assertEqual((self.search(both), clauses(both)), ((2, 2), ((("station", "x", 0),), (one, other))))
        self.assertEqual((fewest(both), [row[0] for row in mending(both)]), ((one, ("station", "x", 0)), [other, ("station", "x", 0)]))

    def test_the_example(self):
        self.assertEqual((fewest(SPOILT), clauses(SPOILT), [row[0] for row in mending(SPOILT)]), ((LINE,), ((LINE,),), [LINE]))
        self.assertEqual((mends(SPOILT), mends(SPOILT, LINE), mends(SPOILT, ("station", "x", 0))), (False, True, False))

    def test_no_spot(self):
        chip = Chip(Isle("a"))
        self.assertEqual((spots(chip), mends(chip), mending(chip), clauses(chip), fewest(chip)), ((), True, (), (), ()))
        self.assertEqual(mend_paper(chip), ((((), verdict(chip)[1]),), ()))
        self.assertEqual((mends(LOST), clauses(LOST)), (False, ((),)))
        sets, told = mend_paper(LOST)
        self.assertEqual((sets, [row[0] for row in told]), ((), [()]))
        self.assertIs(lets_run(LOST, *told[0][1:]), True)
        self.unmended(LOST)

    def test_safe_chips(self):
        self.assertEqual((mending(SAFE), clauses(SAFE), fewest(SAFE)), ((), (), ()))
        self.assertEqual(mend_paper(SAFE), ((((), verdict(SAFE)[1]),), ()))

    def test_eight_spots(self):
        chip = hanging(8)
        known = spots(chip)
        self.assertEqual(len(known), 8)
        self.assertEqual((clauses(chip), fewest(chip), [row[0] for row in mending(chip)]), (tuple((spot,) for spot in known), known, list(known)))
        thing = mend_paper(chip)
        self.assertIs(lets_mends(chip, thing), True)
        self.assertIs(lets_mends(chip, (thing[0], thing[1][1:])), False)

    def test_nine_spots(self):
        chip = hanging(9)
        for work in (clauses, fewest, mend_paper):
            error = error_of(work, chip)
            self.assertEqual((type(error), error.most), (TooMany, 8))
        self.assertEqual([row[0] for row in mending(chip)], list(spots(chip)))
        self.assertIs(mends(chip, *spots(chip)), True)
        self.assertIs(mends(chip, *spots(chip)[1:]), False)

    def test_too_many_ahead_of_not_safe(self):
        chip = hanging(9).with_isles(Isle("b", **SMALL))
        self.assertEqual([type(error_of(work, chip)) for work in (clauses, fewest, mend_paper, mending)], [TooMany, TooMany, TooMany, NotSafe])
        chip = hanging(8).with_isles(Isle("b", **SMALL))
        self.assertEqual((type(error_of(fewest, chip)), clauses(chip)), (NotSafe, ((),)))

    def test_no_spots(self):
        for value in ANY + [("station", "x", False), ("line", "x", 0, 1), ["line", "x", 0, 0]]:
            error = error_of(mends, SPOILT, LINE, value)
            self.assertIsInstance(error, NoSpot)
            self.assertIs(error.value, value)

    def test_propping_twice(self):
        self.assertIs(mends(SPOILT, LINE, LINE), True)

    def test_lists_belong_to_the_caller(self):
        mending(SPOILT)[0][2].clear()
        mend_paper(SPOILT)[1][0][2].clear()
        self.assertNotEqual(mending(SPOILT)[0][2], [])
        self.assertNotEqual(mend_paper(SPOILT)[1][0][2], [])


class PapersTest(unittest.TestCase):

    def test_one_thing_wrong(self):
        chip = TWO
        sets, told = mend_paper(chip)
        self.assertEqual((len(sets), len(told)), (1, 2))
        self.assertIs(lets_mends(chip, (sets, told)), True)
        row, tables = sets[0]
        clause, question, events = told[0]
        longer = tuple((each, asked, [("tick", "shore"), *run]) for each, asked, run in told)
        self.assertIs(lets_mends(chip, (sets, longer)), True)
        for wrong in ((sets, told[:1]), (sets, told[::-1]), (sets, told + told[:1]), ((), told), (sets + sets, told), (list(sets), told), (sets, list(told)),
                      [sets, told], (sets, told, ()), (sets,), (((row[::-1], tables),), told), (((row[:1], tables),), told),
                      (((list(row), tables),), told), (((row, tables[1:]),), told), (((row, tables, 0),), told), ((([*row], tables),), told),
                      (sets, ((list(clause), question, events), told[1])), (sets, ((clause, question, events[:-1]), told[1])),
                      (sets, ((clause, question, tuple(events)), told[1])), (sets, ((clause, ("isle", "z"), events), told[1])),
                      (sets, ((clause, question), told[1])), (sets, ((told[1][0], question, events), told[1])),
                      (sets, ((row, question, events),)), ((((*row, ("station", "x", 0)), tables),), told)):
            self.assertIs(lets_mends(chip, wrong), False)

    def test_a_set_within_another_one(self):
        # With all spots propped the chip is safe, too, but a lesser set is.
        sets, told = mend_paper(SPOILT)
        both = spots(SPOILT)
        more = (both, verdict(propped(SPOILT, *both))[1])
        self.assertIs(lets_mends(SPOILT, ((more,), told)), False)
        self.assertIs(lets_mends(SPOILT, (sets + (more,), told)), False)

    def test_clauses_that_are_not_the_least(self):
        sets, told = mend_paper(SPOILT)
        wrong = (spots(SPOILT), *verdict(SPOILT)[1:])
        self.assertIs(lets_mends(SPOILT, (sets, (wrong,))), False)
        self.assertIs(lets_mends(SPOILT, (sets, told + (wrong,))), False)

    def test_papers_of_chips_that_are_lost_or_safe(self):
        sets, told = mend_paper(LOST)
        self.assertIs(lets_mends(LOST, (sets, told)), True)
        self.assertIs(lets_mends(LOST, ((), ())), False)
        self.assertIs(lets_mends(LOST, ((((), ()),), ())), False)
        sets, told = mend_paper(SAFE)
        self.assertIs(lets_mends(SAFE, (sets, told)), True)
        self.assertIs(lets_mends(SAFE, ((), ())), False)
        self.assertIs(lets_mends(SAFE, ((), (((), ("isle", "a"), []),))), False)

    def test_more_than_eight_spots(self):
        chip = hanging(9)
        known = spots(chip)
        tables = verdict(propped(chip, *known))[1]
        told = tuple(((spot,), *verdict(propped(chip, *[other for other in known if other != spot]))[1:]) for spot in known)
        self.assertIs(lets_mends(chip, (((known, tables),), told)), True)
        self.assertIs(lets_mends(chip, (((known, tables),), told[:-1])), False)
        self.assertIs(lets_mends(chip, (((known[1:], tables),), told[1:])), False)

    def test_bent_by_chance(self):
        answers = {True: 0, False: 0}
        chips = [SPOILT.with_isles(Isle("c", sleeps=False)).with_isles(Isle("a", sleeps=False)), LOST, Chip(Isle("a", sleeps=False)), hanging(2), TWO, EITHER]
        for number, chip in enumerate(chips):
            dice = random.Random(number)
            thing = mend_paper(chip)
            for _ in range(120):
                wrong = bent(dice, thing)
                kept = copied(wrong)
                answer = lets_mends(chip, wrong)
                self.assertIs(answer, oraclepapers.is_mends_paper(chip, wrong), (str(chip), wrong))
                self.assertEqual(wrong, kept)
                answers[answer] += 1
        self.assertTrue(answers[False] > 300, answers)

    def test_any_values(self):
        sets, told = mend_paper(SPOILT)
        for value in ANY:
            self.assertIs(lets_mends(SPOILT, value), False)
            self.assertIs(lets_mends(SPOILT, (value, told)), False)
            self.assertIs(lets_mends(SPOILT, (sets, value)), False)
            self.assertIs(lets_mends(SPOILT, ((value,), told)), False)
            self.assertIs(lets_mends(SPOILT, (sets, (value,))), False)
            self.assertIs(lets_mends(SPOILT, (((value, sets[0][1]),), told)), False)
            self.assertIs(lets_mends(SPOILT, (((sets[0][0], value),), told)), False)
            self.assertIs(lets_mends(SPOILT, ((((value,), sets[0][1]),), told)), False)
            self.assertIs(lets_mends(SPOILT, (sets, ((told[0][0], value, told[0][2]),))), False)
            self.assertIs(lets_mends(SPOILT, (sets, ((*told[0][:2], value),))), False)


class DualsTest(unittest.TestCase):

    def hitting(self, rows, many):
        masks = [mask for mask in range(1 << many) if all(mask & row for row in rows)]
        return sorted(mask for mask in masks if not any(other != mask and other & mask == other for other in masks))

    def test_by_chance(self):
        answers = {True: 0, False: 0}
        for seed in range(1500):
            dice = random.Random(seed)
            many = dice.randint(0, 6)
            rows = {dice.randrange(1 << many) for _ in range(dice.randint(0, 6))}
            rows = [row for row in rows if not any(other != row and other & row == other for other in rows)]
            told = self.hitting(rows, many)
            self.assertEqual(sorted(least_covers(rows)), told)
            self.assertIs(are_dual(rows, told, many), True)
            self.assertIs(are_dual(told, rows, many), True)
            other = [dice.randrange(1 << many) for _ in told] if dice.random() < 0.5 else told[:-1]
            if within_none(other):
                self.assertIs(are_dual(rows, other, many), sorted(other) == told)
                answers[sorted(other) == told] += 1
        self.assertTrue(min(answers.values()) > 50, answers)

    def test_one_set_and_its_things(self):
        for rows, others, told in (([7], [1, 2, 4], True), ([7], [3, 4], False), ([7], [1, 6], False), ([7], [1, 2], False), ([4], [4], True), ([0], [0], False),
                                   ([], [], False), ([0], [], True), ([], [0], True), ([], [1], False), ([1], [2], False), ([0], [1], False)):
            self.assertIs(are_dual(rows, others, 3), told)
            self.assertIs(are_dual(others, rows, 3), told)

    def test_sets_within_others(self):
        for rows, told in (([], True), ([0], True), ([0, 1], False), ([1, 2], True), ([3, 1], False), ([5, 5], False), ([5, 6, 3], True)):
            self.assertIs(within_none(rows), told)

    def test_many_sets(self):
        rows = [3 << 2 * index for index in range(8)]
        told = [sum(1 << 2 * index + choice for index, choice in enumerate(choices)) for choices in itertools.product((0, 1), repeat=8)]
        self.assertIs(are_dual(rows, told, 16), True)
        self.assertIs(are_dual(rows, told[1:], 16), False)
        # 100 sets of 6 things have more least hitting sets than anybody could go through.
        wide = [63 << 6 * index for index in range(100)]
        self.assertIs(are_dual(wide, told, 600), False)
        self.assertIs(are_dual(wide, [sum(1 << 6 * index for index in range(100))], 600), False)
        self.assertIs(are_dual([(1 << 600) - 1], [1 << index for index in range(600)], 600), True)


if __name__ == "__main__":
    unittest.main()
