"""[13], duskisles/logics.py: what isles and the shore make of their registers."""

import unittest

from duskisles.logics import Adding, Counting, Logic, Mixing
from values import copied

BIG = 10 ** 59
REGISTERS = [(), (0,), (1, 2), (-5, BIG, 7), (-BIG, 0, 0, 0, 0, 3)]
TAKEN = [{}, {"x": (1,)}, {"x": (), "y": (2, -7)}, {"x": (BIG, BIG), "shore": (-1,), "a": (3, 3, 3)}, {"x": ()}]


def total(taken):
    return sum(number for value in taken.values() for number in value)


class LogicsTest(unittest.TestCase):

    def each(self, logic, told):
        for name in ("a", "shore"):
            for registers in REGISTERS:
                for taken in TAKEN:
                    kept = copied(taken)
                    answer = logic(name, registers, taken)
                    self.assertEqual(answer, told(registers, total(taken)))
                    self.assertIs(type(answer), tuple)
                    self.assertEqual(taken, kept)

    def test_logic(self):
        self.each(Logic(), lambda registers, s: registers)

    def test_counting(self):
        self.each(Counting(), lambda registers, s: tuple(r + 1 for r in registers))

    def test_adding(self):
        self.each(Adding(), lambda registers, s: tuple(r + 1 + s for r in registers))

    def test_mixing(self):
        for a, b, c in ((2, 1, 3), (0, 0, 0), (-1, 5, -7), (BIG, -BIG, 1), (1, 0, 0), (0, 1, 0), (0, 0, 1)):
            for modulus in (2, 10, 97, BIG):
                def told(registers, s):
                    return tuple((a * r + b * s + c * (i + 1)) % modulus for i, r in enumerate(registers))
                self.each(Mixing(a, b, c, modulus=modulus), told)
            self.each(Mixing(a, b, c), lambda registers, s: tuple((a * r + b * s + c * (i + 1)) % 97 for i, r in enumerate(registers)))

    def test_modulus_2(self):
        self.assertEqual(Mixing(1, 1, 1, modulus=2)("a", (0, 1, -1, 4), {"x": (1,)}), (0, 0, 1, 1))

    def test_modulus_is_passed_by_name(self):
        self.assertRaises(TypeError, Mixing, 1, 2, 3, 4)
        self.assertEqual(Mixing(c=3, b=2, a=1, modulus=7)("a", (1,), {}), (4,))

    def test_the_chain_of_classes(self):
        self.assertEqual([each.__bases__ for each in (Logic, Counting, Adding)], [(object,), (Logic,), (Counting,)])
        self.assertTrue(issubclass(Mixing, Logic))
        self.assertFalse(issubclass(Mixing, Counting))
        for each in (Logic, Counting, Adding, Mixing):
            self.assertIn("__call__", vars(each))

    def test_objects_keep_nothing(self):
        logic = Mixing(2, 1, 3)
        self.assertEqual([logic("a", (1,), {"x": (5,)}) for _ in range(3)], [(10,)] * 3)


if __name__ == "__main__":
    unittest.main()
