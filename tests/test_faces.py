"""[16], [18], duskisles/faces.py: what is left of an isle if the words of its rows are forgotten."""

import itertools
import random
import unittest

import oraclecones
import oracletables
from duskisles.chips import Chip
from duskisles.cones import cone, full
from duskisles.errors import NoIsle, NoQuestion
from duskisles.faces import face, fits
from duskisles.isles import Isle
from duskisles.judge import judged
from duskisles.stations import Clamp, Pass
from duskisles.wires import Wire
from made import made_chip, made_isle
from test_cones import WRONG
from values import error_of

X = ("wire", "x")


def chip_of(isle, *stations, others=()):
    """A chip in which b stands between a and the shore."""
    return Chip(Isle("a", plain=0), isle, *others, wires=(Wire("x", "a", "shore", *stations),))


class FacesTest(unittest.TestCase):

    def test_one_flag(self):
        off, on = (None, None, None, False), (None, None, None, True)
        there_and_back = ((off, (1,)), (on, (0,)))
        for sleep, wake in ((("dark",), ("lit",)), (Isle.SLEEP, Isle.WAKE), (("dark", "save"), ("go", "lit"))):
            self.assertEqual(face(chip_of(Isle("b", sleep=sleep, wake=wake), Pass("b")), X, "b"), there_and_back)
        self.assertEqual(face(chip_of(Isle("b", wake=("go",)), Pass("b")), X, "b"), ((off, (1,)), (on, ())))
        self.assertEqual(face(chip_of(Isle("b", sleep=("still",)), Pass("b")), X, "b"), ((off, ()),))
        self.assertEqual(face(chip_of(Isle("b", sleeps=False), Pass("b")), X, "b"), ((off, ()),))

    def test_two_flags_in_one_order_or_another(self):
        def told(*sleep, wake=("lit", "open")):
            return face(chip_of(Isle("b", sleep=sleep, wake=wake), Clamp("b", "b")), X, "b")
        neither, both = (None, None, False, False), (None, None, True, True)
        shut, away = (None, None, True, False), (None, None, False, True)
        self.assertEqual(told("shut", "dark"), ((neither, (1,)), (shut, (2,)), (both, (3,)), (shut, (0,))))
        self.assertEqual(told("dark", "shut"), ((neither, (1,)), (away, (2,)), (both, (3,)), (shut, (0,))))
        self.assertEqual(told("dark", "shut", wake=("open", "lit")), ((neither, (1,)), (away, (2,)), (both, (3,)), (away, (0,))))
        self.assertEqual(told("dark", "save", "shut", wake=("go", "lit", "reset", "open")), told("dark", "shut"))

    def test_next_ascends_by_labels_and_pairs_are_counted_as_they_are_met(self):
        # From falling 1 a turn leads to the wake row, so there are two ways out of a group: to open and to dark.
        isle = Isle("b", sleep=("shut", "still", "dark"), wake=("lit", "open"), turns=(("sleep", 1, 1),))
        told = face(chip_of(isle, Clamp("b", "b")), X, "b")
        neither, shut, both = (None, None, False, False), (None, None, True, False), (None, None, True, True)
        self.assertEqual(told, ((neither, (1,)), (shut, (0, 2)), (both, (3,)), (shut, (0,))))

    def test_phases(self):
        chip = chip_of(Isle("b", needs=("c",)), Pass("b"), others=[Isle("c")])
        b = ((("up", None, None, False), (1,)), (("between", None, None, False), (2,)), (("asleep", None, None, True), (3,)),
             (("between", None, None, False), (0,)))
        self.assertEqual(face(chip, X, "b"), b)
        c = ((("up", None, None, None), (1,)), (("between", None, None, None), (2,)), (("asleep", None, None, None), (3,)),
             (("between", None, None, None), (0,)))
        self.assertEqual(face(chip, X, "c"), c)

    def test_faces_that_differ_late(self):
        # Both rows end with dark; only the second time around the clock is off for good.
        early = Isle("b", sleep=("still", "dark"), wake=("lit", "go"))
        late = early.changed(sleep=("dark", "still"), wake=("lit", "go"))
        chip = Chip(Isle("a", plain=0), early, wires=(Wire("x", "a", "b", Pass("b")),))
        self.assertNotEqual(face(chip, X, "b"), face(chip.with_isles(late), X, "b"))
        never = early.changed(wake=("lit",))
        told = face(chip.with_isles(never), X, "b")
        self.assertEqual(told, (((None, True, None, False), (1,)), ((None, False, None, False), (2,)), ((None, False, None, True), (1,))))
        self.assertEqual(face(chip, X, "b"), (((None, True, None, False), (1,)), ((None, False, None, False), (2,)),
                                              ((None, False, None, True), (3,)), ((None, False, None, False), (0,))))

    def test_equal_stands_share_a_pair(self):
        # Up again with its flags as they were when it woke: going around a second time leads nowhere new.
        isle = Isle("b", sleep=("dark",), wake=("lit",), turns=())
        chip = chip_of(isle.changed(sleep=("dark", "shut"), wake=("lit", "open")), Pass("b"))
        self.assertEqual(len(face(chip, X, "b")), 2)

    def test_against_a_second_telling_of_the_document(self):
        many = 0
        for seed in range(60):
            chip = made_chip(random.Random(seed), 3, 3, turns=2, whole=0.3)
            for question in chip.questions:
                for name in cone(chip, question):
                    if name != full(chip, question) and len(oraclecones.stands(chip, question, name)) < 16:
                        many += 1
                        self.assertEqual(face(chip, question, name), oracletables.face(chip, question, name))
        self.assertGreater(many, 100)

    def test_wrong_values(self):
        chip = Chip(Isle("a", leash=("b",)), Isle("b"), Isle("c"), wires=(Wire("x", "a", "shore"), Wire("y", "shore", "b")))
        for value in WRONG:
            for work in (lambda question: face(chip, question, None), lambda question: fits(chip, question, Isle("z"))):
                error = error_of(work, value)
                self.assertIsInstance(error, NoQuestion)
                self.assertIs(error.value, value)
        for value in [value for value in WRONG if value != "b"] + ["a", "c", "shore", ("b",)]:
            error = error_of(face, chip, X, value)
            self.assertIsInstance(error, NoIsle)
            self.assertIs(error.which, value)
        for name in ("a", "c", "z"):
            self.assertEqual(error_of(fits, chip, X, Isle(name)).which, name)
            self.assertIsInstance(error_of(fits, chip, ("wire", "y"), Isle(name)), NoIsle)
        self.assertIsInstance(error_of(face, chip, ("wire", "y"), None), NoIsle)


class FitsTest(unittest.TestCase):

    def test_other_words_and_equal_faces(self):
        chip = chip_of(Isle("b"), Clamp("b", "b"))
        for sleep in itertools.permutations(Isle.SLEEP):
            self.assertIs(fits(chip, X, Isle("b", sleep=sleep)), sleep.index("shut") < sleep.index("dark"))
        self.assertIs(fits(chip, X, Isle("b", kept=3, plain=0, sleep=("shut", "dark"), wake=("lit", "open"))), True)
        self.assertIs(fits(chip, X, Isle("b", sleep=("shut", "dark"), wake=("open", "lit"))), False)

    def test_leash_needs_and_sleeps(self):
        isle = Isle("b", leash=("c", "d"), needs=("e", "f"))
        chip = chip_of(isle, Pass("b"), others=[Isle(name) for name in "cdef"])
        self.assertIs(fits(chip, X, isle), True)
        self.assertIs(fits(chip, X, isle.changed(needs=("f", "e"))), True)
        for parts in ({"leash": ("c",)}, {"leash": ("d", "c")}, {"leash": ()}, {"needs": ("e",)}, {"needs": ()}, {"sleeps": False}):
            self.assertIs(fits(chip, X, isle.changed(**parts)), False, parts)
        # A ring makes it sleepless, so what never sleeps by itself has the same face, but not the same sleeps.
        ring = chip_of(Isle("b", needs=("c",)), Pass("b"), others=[Isle("c", needs=("b",))])
        self.assertIs(fits(ring, X, Isle("b", needs=("c",), sleep=("still",))), True)
        self.assertIs(fits(ring, X, Isle("b", needs=("c",), sleeps=False)), False)

    def test_leashes_that_the_chip_does_not_know(self):
        chip = chip_of(Isle("b"), Pass("b"))
        self.assertIs(fits(chip, X, Isle("b", leash=("z",))), False)
        self.assertIs(fits(chip, X, Isle("b", needs=("z",))), False)

    def test_what_fits_changes_no_answer(self):
        changed = 0
        for seed in range(300):
            dice = random.Random(seed)
            chip = made_chip(dice, 3, 2, turns=1, whole=0.4)
            question = dice.choice(chip.questions)
            names = [name for name in cone(chip, question) if name != full(chip, question)]
            if names:
                old = chip[dice.choice(names)]
                new = made_isle(dice, old.name, list(chip.names), whole=0.5).changed(leash=old.leash, needs=old.needs, sleeps=old.sleeps)
                if fits(chip, question, new):
                    changed += 1
                    self.assertEqual(judged(chip, question)[0], judged(chip.with_isles(new), question)[0])
        self.assertGreater(changed, 20)


if __name__ == "__main__":
    unittest.main()
