"""[6] to [8], [16], [18], duskisles/stands.py: what a question tells apart of an isle of its cone."""

import random
import unittest

import oraclecones
from duskisles.chips import Chip
from duskisles.cones import cone
from duskisles.errors import NoIsle, NoQuestion
from duskisles.isles import Isle
from duskisles.keepers import own_states
from duskisles.stands import first_stand, group, label, next_stands, stands
from duskisles.stations import Clamp, Pass
from duskisles.wires import Wire
from made import made_chip
from values import error_of
from test_cones import WRONG

X = ("wire", "x")


def chip_of(isle, *stations, others=()):
    """A chip in which b stands between a and the shore."""
    return Chip(Isle("a"), isle, *others, wires=(Wire("x", "a", "shore", *stations),))


class StandsTest(unittest.TestCase):

    def test_the_full_isle_has_its_own_states(self):
        isle = Isle("a", turns=(("sleep", 1, 3), ("wake", 2, 0)))
        chip = Chip(isle)
        question = ("isle", "a")
        self.assertEqual(first_stand(chip, question, "a"), ("up", 0, True, False, False))
        self.assertEqual(tuple(sorted(stands(chip, question, "a"))), own_states(isle))
        for stand in stands(chip, question, "a"):
            self.assertEqual(group(chip, question, "a", stand), (stand,))
        self.assertEqual(next_stands(chip, question, "a", ("falling", 1, False, False, False)),
                         (("falling", 2, False, True, False), ("waking", 3, False, False, False)))

    def test_one_flag_that_is_read(self):
        chip = chip_of(Isle("b"), Pass("b"))
        first = ("up", 0, None, None, False)
        self.assertEqual(first_stand(chip, X, "b"), first)
        self.assertEqual(list(stands(chip, X, "b")), [first, ("asleep", 0, None, None, True), ("waking", 1, None, None, False)])
        self.assertEqual(group(chip, X, "b", first), tuple(("falling", n, None, None, False) for n in (1, 2, 3)) + (first,))
        self.assertEqual(group(chip, X, "b", ("asleep", 0, None, None, True)), (("asleep", 0, None, None, True),))
        self.assertEqual(group(chip, X, "b", ("waking", 1, None, None, False)),
                         tuple(("falling", n, None, None, False) for n in (1, 2, 3)) + (first,)
                         + tuple(("waking", n, None, None, False) for n in (1, 2, 3, 4)))
        self.assertEqual(next_stands(chip, X, "b", ("waking", 1, None, None, False)), (("asleep", 0, None, None, True),))

    def test_each_reason_to_read_a_flag(self):
        chip = Chip(Isle("a"), Isle("b"), wires=(Wire("x", "a", "b", Clamp("shore", "b", line=("b",))),))
        self.assertEqual(list(stands(chip, X, "b")),
                         [("up", 0, True, False, False), ("falling", 1, False, False, False), ("falling", 2, False, True, False),
                          ("asleep", 0, False, True, True), ("waking", 1, False, True, False), ("waking", 4, False, False, False)])
        clock = Chip(Isle("a"), Isle("b"), wires=(Wire("x", "a", "b"),))
        self.assertEqual(list(stands(clock, X, "b")), [("up", 0, True, None, None), ("falling", 1, False, None, None)])
        self.assertEqual(next_stands(clock, X, "b", ("falling", 1, False, None, None)), (("up", 0, True, None, None),))
        shut = chip_of(Isle("b"), Clamp("shore", "b"))
        self.assertEqual(list(stands(shut, X, "b")),
                         [("up", 0, None, False, None), ("falling", 2, None, True, None), ("waking", 4, None, False, None)])

    def test_a_phase_that_is_read(self):
        chip = chip_of(Isle("b", needs=("c",), turns=(("sleep", 1, 2),)), Pass("b"), others=[Isle("c")])
        first = ("up", 0, None, None, False)
        self.assertEqual(group(chip, X, "b", first), (first,))
        self.assertEqual(next_stands(chip, X, "b", first), (("falling", 1, None, None, False),))
        self.assertEqual(group(chip, X, "b", ("falling", 1, None, None, False)),
                         tuple(("falling", n, None, None, False) for n in (1, 2, 3)) + tuple(("waking", n, None, None, False) for n in (2, 3, 4)))
        self.assertEqual(next_stands(chip, X, "b", ("falling", 1, None, None, False)), (("asleep", 0, None, None, True), first))
        self.assertEqual(list(stands(chip, X, "c")),
                         [("up", 0, None, None, None), ("falling", 1, None, None, None), ("asleep", 0, None, None, None),
                          ("waking", 1, None, None, None)])

    def test_rows_of_one_word(self):
        chip = chip_of(Isle("b", sleep=("dark",), wake=("lit",)), Pass("b"), others=[Isle("c", needs=("b",), sleep=("shut",), wake=("go",))])
        self.assertEqual(list(stands(chip, X, "b")), [("up", 0, None, None, False), ("asleep", 0, None, None, True)])
        chip = chip_of(Isle("b", needs=("c",)), Pass("b"), others=[Isle("c", sleep=("shut",), wake=("go",))])
        self.assertEqual(list(stands(chip, X, "c")), [("up", 0, None, None, None), ("asleep", 0, None, None, None)])

    def test_a_deed_that_sets_a_flag_to_its_value_is_silent(self):
        chip = chip_of(Isle("b", sleep=("dark",), wake=("go",)), Pass("b"))
        self.assertEqual(list(stands(chip, X, "b")), [("up", 0, None, None, False), ("asleep", 0, None, None, True)])
        self.assertEqual(group(chip, X, "b", ("asleep", 0, None, None, True)), (("asleep", 0, None, None, True), ("up", 0, None, None, True)))
        self.assertEqual(next_stands(chip, X, "b", ("asleep", 0, None, None, True)), ())

    def test_sleepless_isles_have_one_stand(self):
        rest = Isle("a", sleeps=False)
        ring = Chip(Isle("a", needs=("b",)), Isle("b", needs=("a",)), wires=(Wire("x", "a", "b", Pass("b")),))
        needed = Chip(Isle("a"), Isle("b"), Isle("c", needs=("b",), sleeps=False), wires=(Wire("x", "a", "b", Pass("b")),))
        for chip, question, name in ((Chip(rest), ("isle", "a"), "a"), (ring, X, "a"), (ring, X, "b"), (needed, X, "b")):
            stand = first_stand(chip, question, name)
            self.assertEqual(list(stands(chip, question, name)), [stand])
            self.assertEqual((group(chip, question, name, stand), next_stands(chip, question, name, stand)), ((stand,), ()))
        # c is not in the cone of x, but it keeps b up all the same.
        self.assertEqual((cone(needed, X), first_stand(needed, X, "b")), (("a", "b"), ("up", 0, True, None, False)))

    def test_stands_are_told_in_their_order(self):
        # By next stands ("falling", 1) comes ahead of ("waking", 0), and both ahead of what is behind them.
        isle = Isle("a", sleep=("still", "dark"), wake=("lit", "go"), turns=(("sleep", 1, 0), ("wake", 1, 1)))
        rows = list(stands(Chip(isle), ("isle", "a"), "a"))
        ahead = [rows[0]]
        for stand in rows:
            ahead += [each for each in next_stands(Chip(isle), ("isle", "a"), "a", stand) if each not in ahead]
        self.assertEqual(rows, ahead)
        self.assertEqual(rows[:4], [("up", 0, True, False, False), ("falling", 1, False, False, False), ("asleep", 0, False, False, True),
                                    ("waking", 0, False, False, False)])

    def test_labels(self):
        chip = chip_of(Isle("b", needs=("c",)), Pass("b"), others=[Isle("c")])
        told = [label(chip, X, "b", stand) for stand in stands(chip, X, "b")]
        self.assertEqual(told[:2], [("up", None, None, False), ("between", None, None, False)])
        self.assertEqual(label(chip, X, "b", ("asleep", 0, None, None, True)), ("asleep", None, None, True))
        self.assertEqual(label(chip, X, "b", ("waking", 0, None, None, True)), ("between", None, None, True))
        plain = chip_of(Isle("b"), Pass("b"))
        self.assertEqual([label(plain, X, "b", stand) for stand in stands(plain, X, "b")],
                         [(None, None, None, False), (None, None, None, True), (None, None, None, False)])
        self.assertEqual(label(chip, X, "a", first_stand(chip, X, "a")), ("up", True, False, False))

    def test_generators_by_turns(self):
        chip = Chip(Isle("a"), Isle("b"))
        one, two = stands(chip, ("isle", "a"), "a"), stands(chip, ("isle", "b"), "b")
        pairs = [(next(one), next(two)) for _ in range(3)]
        self.assertEqual([pair[0] for pair in pairs], [pair[1] for pair in pairs])
        self.assertEqual(list(one), list(two))

    def test_against_a_second_telling_of_the_document(self):
        for seed in range(80):
            chip = made_chip(random.Random(seed), 4, 3, turns=3, leash=2, needs=2)
            for question in chip.questions:
                for name in cone(chip, question):
                    rows = oraclecones.stands(chip, question, name)
                    self.assertEqual(list(stands(chip, question, name)), rows)
                    self.assertEqual(first_stand(chip, question, name), rows[0])
                    for stand in rows:
                        self.assertEqual(group(chip, question, name, stand), oraclecones.group(chip, question, name, stand))
                        self.assertEqual(next_stands(chip, question, name, stand), oraclecones.next_stands(chip, question, name, stand))
                        self.assertEqual(label(chip, question, name, stand), oraclecones.label(chip, question, name, stand))

    def test_wrong_values(self):
        chip = Chip(Isle("a", leash=("b",)), Isle("b"), Isle("c"), wires=(Wire("x", "a", "shore"),))
        stand = ("up", 0, True, False, False)
        works = [lambda *values: first_stand(chip, *values), lambda *values: group(chip, *values, stand),
                 lambda *values: next_stands(chip, *values, stand), lambda *values: next(stands(chip, *values)),
                 lambda *values: label(chip, *values, stand)]
        for work in works:
            for value in WRONG:
                error = error_of(work, value, None)
                self.assertIsInstance(error, NoQuestion)
                self.assertIs(error.value, value)
            for value in [value for value in WRONG if value not in ("a", "b")] + ["c", "shore", "x"]:
                error = error_of(work, X, value)
                self.assertIsInstance(error, NoIsle)
                self.assertIs(error.which, value)


if __name__ == "__main__":
    unittest.main()
