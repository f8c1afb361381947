"""[7], [15], [16], duskisles/cones.py: which isles a question asks for, and what it reads of them."""

import random
import unittest

import oraclecones
from duskisles.chips import Chip
from duskisles.cones import cone, full, reads
from duskisles.errors import NoIsle, NoQuestion
from duskisles.isles import Isle
from duskisles.stations import Clamp, Holding, Pass
from duskisles.wires import Wire
from made import made_chip
from values import ANY, error_of

WRONG = ANY + [("isle", "z"), ("wire", "a"), ("isle", "shore"), ["isle", "a"], ("isle", "a", 0), ("isle", ["a"]), ("isle",), "isle a"]


def told(chip, question):
    """The cone, with the first letters of what is read of each isle."""
    return " ".join(name + ":" + "".join(word[0] for word in reads(chip, question, name)) for name in cone(chip, question))


class ConesTest(unittest.TestCase):

    def test_isles(self):
        chip = Chip(Isle("a", leash=("b",)), Isle("b", leash=("c",)), Isle("c"), Isle("d", leash=("a",)), Isle("e"))
        self.assertEqual(told(chip, ("isle", "a")), "a:pcsa b:a c:a")
        self.assertEqual(told(chip, ("isle", "c")), "c:pcsa")
        self.assertEqual(told(chip, ("isle", "d")), "a:a b:a c:a d:pcsa")

    def test_leashes_in_a_ring(self):
        chip = Chip(Isle("a", leash=("b",)), Isle("b", leash=("a",)), Isle("c", leash=("a", "d")), Isle("d"))
        self.assertEqual(told(chip, ("isle", "a")), "a:pcsa b:a")
        self.assertEqual(told(chip, ("isle", "c")), "a:a b:a c:pcsa d:a")

    def test_needs_in_a_row(self):
        chip = Chip(Isle("a", needs=("b",)), Isle("b", needs=("c",)), Isle("c"), Isle("d", needs=("a",)))
        self.assertEqual(told(chip, ("isle", "a")), "a:pcsa b:p c:p")
        self.assertEqual(told(chip, ("isle", "b")), "b:pcsa c:p")
        self.assertEqual(told(chip, ("isle", "c")), "c:pcsa")

    def test_needs_in_a_ring(self):
        chip = Chip(Isle("a", needs=("b",)), Isle("b", needs=("c",)), Isle("c", needs=("a",)), Isle("d", leash=("a",)))
        self.assertEqual(told(chip, ("isle", "b")), "a:p b:pcsa c:p")
        self.assertEqual(told(chip, ("isle", "d")), "a:pa b:p c:p d:pcsa")

    def test_leashes_of_isles_that_are_only_needed_are_not_in_the_cone(self):
        chip = Chip(Isle("a", needs=("b",)), Isle("b", leash=("c",)), Isle("c"))
        self.assertEqual(told(chip, ("isle", "a")), "a:pcsa b:p")
        chip = Chip(Isle("a", leash=("b",)), Isle("b", needs=("c",)), Isle("c", leash=("d",)), Isle("d"))
        self.assertEqual(told(chip, ("isle", "a")), "a:pcsa b:pa c:p")

    def test_phases_of_isles_that_hang_together(self):
        # b is in the cone of a by its leash and needs a itself; e is in no cone of a, though it needs b.
        chip = Chip(Isle("a", leash=("b", "c")), Isle("b", needs=("a",)), Isle("c"), Isle("e", needs=("b",)))
        self.assertEqual(told(chip, ("isle", "a")), "a:pcsa b:pa c:a")

    def test_wires(self):
        names = "abcdefgh"
        wire = Wire("x", "a", "b", Pass("c"), Clamp("shore", "d", line=("e",)), Holding("f", "b", line=("a", "d")))
        chip = Chip(*[Isle(name) for name in names], wires=(wire,))
        self.assertEqual((told(chip, ("wire", "x")), full(chip, ("wire", "x"))), ("a:pcsa b:cs c:a d:sa e:a f:a", "a"))
        chip = chip.with_isles(Isle("e", leash=("g",)), Isle("d", leash=("h",), needs=("f",)), Isle("b", leash=("h",)))
        self.assertEqual(told(chip, ("wire", "x")), "a:pcsa b:cs c:a d:psa e:a f:pa g:a h:a")

    def test_owners_and_readers_have_no_leashes_in_the_cone(self):
        chip = Chip(Isle("a"), Isle("b", leash=("d",)), Isle("c", leash=("d",)), Isle("d"), wires=(Wire("x", "a", "b", Clamp("shore", "c")),))
        self.assertEqual(told(chip, ("wire", "x")), "a:pcsa b:c c:s")

    def test_wires_from_and_to_the_shore(self):
        wires = (Wire("x", "shore", "a", Pass("b")), Wire("y", "a", "shore", Pass("shore")), Wire("z", "shore", "a", Clamp("shore", "a")))
        chip = Chip(Isle("a", needs=("c",)), Isle("b"), Isle("c"), wires=wires)
        self.assertEqual([told(chip, ("wire", name)) for name in "xyz"], ["a:pc b:a c:p", "a:pcsa c:p", "a:pcs c:p"])
        self.assertEqual([full(chip, question) for question in chip.questions], ["a", "b", "c", None, "a", None])

    def test_an_owner_on_its_own_place(self):
        chip = Chip(Isle("a"), Isle("b"), wires=(Wire("x", "shore", "b", Clamp("b", "b", line=("b",))), Wire("y", "a", "b", Clamp("a", "a"))))
        self.assertEqual([told(chip, ("wire", name)) for name in "xy"], ["b:csa", "a:pcsa b:c"])

    def test_sleepless_isles_are_read_like_others(self):
        chip = Chip(Isle("a", leash=("b",), sleeps=False), Isle("b", sleeps=False))
        self.assertEqual(told(chip, ("isle", "a")), "a:pcsa b:a")

    def test_against_a_second_telling_of_the_document(self):
        for seed in range(150):
            chip = made_chip(random.Random(seed), 5, 4, leash=2, needs=2)
            for question in chip.questions:
                self.assertEqual(cone(chip, question), oraclecones.cone(chip, question))
                self.assertEqual(full(chip, question), oraclecones.full(chip, question))
                for name in cone(chip, question):
                    self.assertEqual(reads(chip, question, name), oraclecones.reads(chip, question, name))

    def test_wrong_values(self):
        chip = Chip(Isle("a", leash=("b",)), Isle("b"), Isle("c"), wires=(Wire("x", "a", "shore"),))
        for value in WRONG:
            for work in (cone, full, lambda chip, question: reads(chip, question, None)):
                error = error_of(work, chip, value)
                self.assertIsInstance(error, NoQuestion)
                self.assertIs(error.value, value)
        for question in (("isle", "a"), ("wire", "x")):
            for value in [value for value in ANY if value not in ("a", "b")] + ["c", "shore", "x", ["a"], ("b",)]:
                error = error_of(reads, chip, question, value)
                self.assertIsInstance(error, NoIsle)
                self.assertIs(error.which, value)


if __name__ == "__main__":
    unittest.main()
