"""[5], [12], duskisles/chips.py: chips."""

import itertools
import unittest

from duskisles.chips import Chip
from duskisles.errors import InvalidChip, InvalidName, NoIsle, NoWire
from duskisles.isles import Isle
from duskisles.stations import Clamp, Holding, Pass
from duskisles.wires import Wire
from values import ANY, copied, error_of, is_assigned, raised

LETTERS = "abcdefgh"
ISLES = (Isle("c", needs=("a",)), Isle("a", leash=("c", "b")), Isle("b", kept=2))
WIRES = (Wire("y", "shore", "c"), Wire("b", "a", "b", Clamp("b", "a", line=("c",)), Pass("shore")),
         Wire("x", "b", "shore", Holding("shore", "b")))


def some_chip():
    return Chip(*ISLES, wires=WIRES, shore=2)


def wires(count):
    return tuple(Wire("x" + letter, "a", "shore") for letter in "abcdefghijklmnopqrstuvwxyz"[:count])


class PartsTest(unittest.TestCase):

    def test_properties(self):
        chip = some_chip()
        self.assertEqual([chip.names, chip.wires, chip.shore], [("a", "b", "c"), ("b", "x", "y"), 2])
        self.assertEqual(chip.questions, (("isle", "a"), ("isle", "b"), ("isle", "c"), ("wire", "b"), ("wire", "x"),
                                          ("wire", "y")))
        least = Chip(Isle("a"))
        self.assertEqual([least.names, least.wires, least.shore, least.questions], [("a",), (), 1, (("isle", "a"),)])
        for part in ("names", "wires", "shore", "questions"):
            self.assertFalse(is_assigned(chip, part, getattr(chip, part)), part)

    def test_isles_and_wires_by_name(self):
        chip = some_chip()
        self.assertEqual([chip["a"], chip["b"], chip["c"]], [ISLES[1], ISLES[2], ISLES[0]])
        self.assertEqual([chip.wire("b"), chip.wire("x"), chip.wire("y")], [WIRES[1], WIRES[2], WIRES[0]])
        self.assertEqual(["b" in chip, "x" in chip, "shore" in chip], [True, False, False])

    def test_any_value_as_a_name(self):
        chip = some_chip()
        for value in [each for each in ANY if each not in ("a", "b")] + ["x", "y", "d"]:
            self.assertIs(value in chip, False)
            error = error_of(lambda: chip[value])
            self.assertEqual((type(error), error.which), (NoIsle, value))
        for value in [each for each in ANY if each != "b"] + ["c"]:
            error = error_of(chip.wire, value)
            self.assertEqual((type(error), error.which), (NoWire, value))
        self.assertIs("a" in chip, True)

    def test_a_chip_is_not_iterated_over(self):
        self.assertRaises(TypeError, list, some_chip())

    def test_length_and_repr(self):
        for count in range(1, 9):
            chip = Chip(*[Isle(letter) for letter in LETTERS[:count]])
            self.assertEqual([len(chip), repr(chip)], [count, f"Chip({count} isles, 0 wires)"])
        self.assertEqual(repr(some_chip()), "Chip(3 isles, 3 wires)")
        self.assertEqual(repr(Chip(Isle("a"), wires=(Wire("x", "a", "shore"),))), "Chip(1 isles, 1 wires)")

    def test_bounds(self):
        self.assertEqual(len(Chip(*[Isle(letter) for letter in LETTERS])), 8)
        self.assertEqual(len(Chip(Isle("a"), wires=wires(24)).wires), 24)
        for shore in (1, 2, 3):
            self.assertEqual(Chip(Isle("a"), shore=shore).shore, shore)

    def test_an_isle_and_a_wire_of_one_name(self):
        chip = Chip(Isle("a"), wires=(Wire("a", "a", "shore"),))
        self.assertEqual(chip.questions, (("isle", "a"), ("wire", "a")))
        self.assertEqual([chip["a"], chip.wire("a")], [Isle("a"), Wire("a", "a", "shore")])


class RefusedTest(unittest.TestCase):

    def refused(self, part, which, *isles, **more):
        calls = [(Chip, isles, more), (Chip.of, (list(isles),), more), (Chip.of, (isles,), more)]
        for work, given, named in calls:
            error = error_of(work, *given, **named)
            self.assertEqual((type(error), error.part, error.which), (InvalidChip, part, which))

    def test_no_isles_too_many_or_other_values(self):
        self.refused("isles", None)
        self.refused("isles", None, *[Isle(letter) for letter in LETTERS + "i"])
        self.refused("isles", None, *[Isle("a")] * 9)
        for value in ANY + [Wire("x", "a", "b"), Pass("a"), Isle, Chip(Isle("a")), (Isle("a"),), [Isle("a")]]:
            self.refused("isles", None, value)
            self.refused("isles", None, Isle("a"), value)
            self.refused("isles", None, Isle("a"), Isle("a"), value)

    def test_isles_of_one_name(self):
        self.refused("isles", "a", Isle("a"), Isle("a"))
        self.refused("isles", "b", Isle("b"), Isle("a"), Isle("b", kept=2), Isle("a"))
        self.refused("isles", "a", Isle("b"), Isle("a"), Isle("a"), Isle("b"))

    def test_wires_that_are_no_tuple_of_wires(self):
        for value in ANY + [[Wire("x", "a", "shore")], {"x": Wire("x", "a", "shore")}, Isle("a")]:
            if value != ():
                error = error_of(Chip, Isle("a"), wires=value)
                self.assertEqual((type(error), error.part, error.which), (InvalidChip, "wires", None))
            self.refused("wires", None, Isle("a"), wires=(value,))
        self.assertEqual(raised(Chip, Isle("a"), wires=Wire("x", "a", "shore")), "InvalidChip('wires', None)")
        self.refused("wires", None, Isle("a"), wires=wires(25))
        self.refused("wires", None, Isle("a"), wires=(Wire("x", "a", "shore"), Isle("a")))
        self.refused("wires", None, Isle("a"), wires=(Wire("x", "a", "shore"),) * 25)
        self.refused("wires", None, Isle("a"), wires=(Wire("x", "a", "shore"), Wire("x", "a", "shore"), None))

    def test_wires_of_one_name(self):
        self.refused("wires", "x", Isle("a"), wires=(Wire("x", "a", "shore"), Wire("x", "shore", "a")))
        self.refused("wires", "y", Isle("a"), wires=tuple(Wire(name, "a", "shore") for name in "xyyx"))

    def test_shores(self):
        for value in ANY:
            if value not in (1, 2) or isinstance(value, bool):
                self.refused("shore", None, Isle("a"), shore=value)
        self.refused("shore", None, Isle("a"), shore=4)

    def test_leashes_and_needs_that_name_no_isle(self):
        self.refused("leash", "a", Isle("b", leash=("d",)), Isle("a", leash=("b", "c")))
        self.refused("leash", "b", Isle("b", leash=("d",)), Isle("a", needs=("c",)))
        self.refused("needs", "a", Isle("b", needs=("d",)), Isle("a", needs=("b", "c")))

    def test_wires_that_name_no_isle(self):
        a, b = Isle("a"), Isle("b")
        for parts in (("driver", "c", "a"), ("reader", "a", "c"), ("on", "a", "b", Pass("c")),
                      ("on", "a", "b", Pass("shore"), Clamp("c", "a")), ("owner", "a", "b", Clamp("a", "c")),
                      ("owner", "a", "b", Clamp("a", "a"), Holding("a", "c")),
                      ("line", "a", "b", Clamp("a", "b", line=("a", "c"))),
                      ("line", "a", "b", Pass("a"), Holding("a", "b", line=("c",)))):
            self.refused(parts[0], "x", b, a, wires=(Wire("x", *parts[1:]),))
            self.refused(parts[0], "x", a, b, wires=(Wire("y", "c", "d"), Wire("x", *parts[1:]), Wire("w", "a", "b")))
        self.assertEqual(len(Chip(a, wires=(Wire("x", "shore", "a", Pass("shore")), Wire("y", "a", "shore")))), 1)

    def test_the_first_of_two_faults_is_told(self):
        # Each row has all faults from its own on.
        a, twins = Isle("a"), wires(1) * 2
        strange = (Wire("x", "c", "d", Clamp("e", "f", line=("g",))),)
        self.refused("isles", None, a, a, None, wires=None, shore=0)
        self.refused("isles", "a", a, a, wires=None, shore=0)
        self.refused("wires", None, Isle("a", leash=("z",)), wires=twins + (None,), shore=0)
        self.refused("wires", "xa", Isle("a", leash=("z",)), wires=twins, shore=0)
        self.refused("shore", None, Isle("a", leash=("z",), needs=("z",)), wires=strange, shore=0)
        self.refused("leash", "b", Isle("a", needs=("z",)), Isle("b", leash=("z",)), wires=strange)
        self.refused("needs", "a", Isle("a", needs=("z",)), wires=strange)
        faults = [("driver", ("c", "d", Clamp("e", "f", line=("g",)))), ("reader", ("a", "d", Clamp("e", "f", line=("g",)))),
                  ("on", ("a", "shore", Clamp("a", "f", line=("g",)), Pass("e"))),
                  ("owner", ("a", "shore", Clamp("a", "a", line=("g",)), Clamp("a", "f"))),
                  ("line", ("a", "shore", Clamp("a", "a", line=("g",))))]
        for part, given in faults:
            self.refused(part, "x", a, wires=(Wire("x", *given),))
        for (first, one), (second, two) in itertools.product(faults, faults):
            self.refused(first, "x", a, wires=(Wire("y", *two), Wire("x", *one)))

    def test_of_takes_lists_and_tuples(self):
        for kind in (list, tuple):
            self.assertEqual(Chip.of(kind(ISLES), kind(WIRES), 2), some_chip())
        self.assertEqual(Chip.of([Isle("a")]), Chip(Isle("a")))
        self.assertEqual(Chip.of(isles=(Isle("a"),), wires=[], shore=3), Chip(Isle("a"), shore=3))
        for value in (None, 0, True, "", "ab", {}, Isle("a")):
            self.assertEqual(raised(Chip.of, value), "InvalidChip('isles', None)")
            self.assertEqual(raised(Chip.of, [Isle("a")], value), "InvalidChip('wires', None)")

    def test_lists_may_be_changed_afterwards(self):
        isles, some = list(ISLES), list(WIRES)
        chip = Chip.of(isles, some, 2)
        isles.append(Isle("d"))
        some.clear()
        self.assertEqual(chip, some_chip())


class EqualityTest(unittest.TestCase):

    def test_any_order(self):
        for isles in itertools.permutations(ISLES):
            for some in itertools.permutations(WIRES):
                chip = Chip(*isles, wires=some, shore=2)
                self.assertTrue(chip == some_chip())
                self.assertFalse(chip != some_chip())
                self.assertEqual([chip.names, chip.wires, chip.questions],
                                 [some_chip().names, some_chip().wires, some_chip().questions])

    def test_one_thing_otherwise(self):
        chip = some_chip()
        others = [Chip(*ISLES, wires=WIRES), Chip(*ISLES, wires=WIRES, shore=3), Chip(*ISLES, wires=WIRES[1:], shore=2),
                  Chip(*ISLES, Isle("d"), wires=WIRES, shore=2), chip.with_isles(Isle("b")),
                  chip.with_wires(Wire("y", "shore", "b")), chip.with_wires(Wire("z", "shore", "c"))]
        for other in others:
            self.assertFalse(chip == other)
            self.assertTrue(chip != other)

    def test_other_values(self):
        for value in ANY + [Isle("a"), WIRES[0]]:
            self.assertIs(some_chip() == value, False)
            self.assertIs(value == some_chip(), False)


class NewChipsTest(unittest.TestCase):

    def setUp(self):
        self.chip = some_chip()

    def tearDown(self):
        self.assertEqual(self.chip, some_chip())

    def test_with_isles(self):
        b, d = Isle("b", plain=3), Isle("d", needs=("b",))
        chip = self.chip.with_isles(d, b)
        self.assertEqual(chip, Chip(ISLES[0], ISLES[1], b, d, wires=WIRES, shore=2))
        self.assertEqual(self.chip.with_isles(), self.chip)

    def test_with_isles_refused(self):
        for value in (None, "a", WIRES[0], [Isle("a")]):
            self.assertEqual(raised(self.chip.with_isles, value), "InvalidChip('isles', None)")
            self.assertEqual(raised(self.chip.with_isles, Isle("d"), value), "InvalidChip('isles', None)")
        self.assertEqual(raised(self.chip.with_isles, Isle("e"), Isle("d"), Isle("e"), Isle("d")),
                         "InvalidChip('isles', 'e')")
        self.assertEqual(raised(self.chip.with_isles, Isle("a"), Isle("a")), "InvalidChip('isles', 'a')")
        self.assertEqual(raised(self.chip.with_isles, *[Isle(letter) for letter in "defghi"]),
                         "InvalidChip('isles', None)")
        self.assertEqual(len(self.chip.with_isles(*[Isle(letter) for letter in "acdefgh"])), 8)
        self.assertEqual(raised(self.chip.with_isles, Isle("b", leash=("d",))), "InvalidChip('leash', 'b')")

    def test_with_wires(self):
        x, z = Wire("x", "a", "shore"), Wire("z", "a", "c")
        chip = self.chip.with_wires(z, x)
        self.assertEqual(chip, Chip(*ISLES, wires=(WIRES[0], WIRES[1], x, z), shore=2))
        self.assertEqual(self.chip.with_wires(), self.chip)

    def test_with_wires_refused(self):
        for value in (None, "x", Isle("a"), [WIRES[0]]):
            self.assertEqual(raised(self.chip.with_wires, value), "InvalidChip('wires', None)")
            self.assertEqual(raised(self.chip.with_wires, WIRES[0], value), "InvalidChip('wires', None)")
        self.assertEqual(raised(self.chip.with_wires, WIRES[2], WIRES[0], WIRES[0], WIRES[2]),
                         "InvalidChip('wires', 'y')")
        self.assertEqual(raised(self.chip.with_wires, *wires(22)), "InvalidChip('wires', None)")
        self.assertEqual(len(self.chip.with_wires(*wires(21)).wires), 24)
        self.assertEqual(raised(self.chip.with_wires, Wire("z", "a", "d")), "InvalidChip('reader', 'z')")

    def test_without_wires(self):
        self.assertEqual(self.chip.without_wires("y"), Chip(*ISLES, wires=WIRES[1:], shore=2))
        self.assertEqual(self.chip.without_wires("x", "b", "y", "x"), Chip(*ISLES, shore=2))
        self.assertEqual(self.chip.without_wires(), self.chip)
        for value in [each for each in ANY if each != "b"] + ["c", "z"]:
            error = error_of(self.chip.without_wires, "x", value, None)
            self.assertEqual((type(error), error.which), (NoWire, value))

    def test_both(self):
        other = Chip(Isle("e", leash=("d",)), Isle("d"), wires=(Wire("z", "d", "e"), Wire("a", "e", "d")), shore=1)
        both = Chip(*ISLES, Isle("d"), Isle("e", leash=("d",)), shore=2,
                    wires=WIRES + (Wire("z", "d", "e"), Wire("a", "e", "d")))
        self.assertEqual([self.chip | other, other | self.chip], [both, both])
        self.assertEqual([(other | self.chip).shore, (other | Chip(Isle("f"), shore=3)).shore], [2, 3])
        self.assertEqual([len(other), other.wires], [2, ("a", "z")])

    def test_both_refused(self):
        def join(one, other):
            return one | other
        self.assertEqual(raised(join, self.chip, Chip(Isle("d"), Isle("c"), Isle("b"))), "InvalidChip('isles', 'b')")
        self.assertEqual(raised(join, Chip(Isle("d")), Chip(Isle("d"))), "InvalidChip('isles', 'd')")
        self.assertEqual(raised(join, self.chip, Chip(*[Isle(letter) for letter in "defghi"])),
                         "InvalidChip('isles', None)")
        self.assertEqual(raised(join, self.chip, Chip(Isle("d"), wires=(Wire("x", "d", "shore"),))),
                         "InvalidChip('wires', 'x')")
        many = Chip(Isle("d"), wires=tuple(Wire("w" + letter, "d", "shore") for letter in "abcdefghijklmnopqrstuv"))
        self.assertEqual(raised(join, self.chip, many), "InvalidChip('wires', None)")


class RenamedTest(unittest.TestCase):

    def setUp(self):
        self.chip = Chip(
            Isle("a", leash=("b", "c"), needs=("c", "b")), Isle("b", kept=3, sleeps=False), Isle("c", turns=(("sleep", 1, 1),)),
            wires=(Wire("a", "b", "shore", Pass("a"), Clamp("shore", "b", gives=1, line=("c", "a"))),
                   Wire("b", "shore", "a", Holding("c", "a", line=("b",)))), shore=3)

    def expected(self, a, b, c):
        return Chip(
            Isle(a, leash=(b, c), needs=(c, b)), Isle(b, kept=3, sleeps=False), Isle(c, turns=(("sleep", 1, 1),)),
            wires=(Wire("a", b, "shore", Pass(a), Clamp("shore", b, gives=1, line=(c, a))),
                   Wire("b", "shore", a, Holding(c, a, line=(b,)))), shore=3)

    def test_names_everywhere(self):
        for names, new in (({}, "abc"), ({"a": "a"}, "abc"), ({"a": "z"}, "zbc"), ({"a": "x", "c": "y"}, "xby"),
                           ({"a": "b", "b": "a"}, "bac"), ({"c": "a", "a": "b", "b": "c"}, "bca"),
                           ({"a": "b", "b": "d"}, "bdc"), ({"a": "c", "b": "a", "c": "b"}, "cab")):
            before = copied(names)
            self.assertEqual(self.chip.renamed(names), self.expected(*new))
            self.assertEqual(names, before)
        self.assertEqual(self.chip, self.expected(*"abc"))
        self.assertEqual(self.chip.renamed(names={"a": "abcdefgh"}).names, ("abcdefgh", "b", "c"))

    def test_kinds_of_stations_stay(self):
        kinds = [type(station) for station in self.chip.renamed({"a": "b", "b": "a"}).wire("a").stations]
        self.assertEqual(kinds, [Pass, Clamp])

    def test_names_that_are_no_isles(self):
        for names, which in (({"d": "e"}, "d"), ({"shore": "e"}, "shore"), ({"": "e"}, ""), ({"z": "e", "d": None}, "d"),
                             ({"a": "c", "z": "e"}, "z"), ({"z": 1, "a": 1, "A": 1}, "A")):
            error = error_of(self.chip.renamed, names)
            self.assertEqual((type(error), error.which), (NoIsle, which))

    def test_new_names_that_are_none(self):
        for value in [each for each in ANY + ["shore"] if each not in ("a", "b", "abcdefgh")]:
            error = error_of(self.chip.renamed, {"a": "c", "b": value})
            self.assertEqual((type(error), error.value), (InvalidName, value))
        self.assertEqual(raised(self.chip.renamed, {"c": "C", "a": "", "b": "shore"}), "InvalidName('')")
        self.assertEqual(raised(self.chip.renamed, {"c": "C", "b": "shore", "a": "c"}), "InvalidName('shore')")

    def test_names_that_meet(self):
        self.assertEqual(raised(self.chip.renamed, {"a": "b"}), "InvalidChip('isles', 'b')")
        self.assertEqual(raised(self.chip.renamed, {"a": "z", "b": "z"}), "InvalidChip('isles', 'z')")
        self.assertEqual(raised(self.chip.renamed, {"a": "x", "b": "x", "c": "x"}), "InvalidChip('isles', 'x')")
        four = Chip(*[Isle(letter) for letter in "abcd"])
        self.assertEqual(raised(four.renamed, {"a": "z", "b": "z", "c": "y", "d": "y"}), "InvalidChip('isles', 'y')")


if __name__ == "__main__":
    unittest.main()
