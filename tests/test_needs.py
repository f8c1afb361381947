"""[7], duskisles/needs.py: isles that never sleep, and those that can be asleep together."""

import itertools
import unittest

from duskisles.chips import Chip
from duskisles.errors import CannotSleep, NoIsle
from duskisles.isles import Isle
from duskisles.needs import Sleepers, lets_reasons, reasons, sleepless
from values import ANY, copied, error_of, raised


def chip_of(rests="", **needs):
    return Chip(*[Isle(name, needs=tuple(some), sleeps=name not in rests) for name, some in needs.items()])


ROW = chip_of(a="b", b="c", c="")
RING = chip_of(a="b", b="c", c="a", d="a", e="f", f="")
# a and b are one ring, b, c and d a longer one; e hangs below, f above.
RINGS = chip_of(a="b", b="ac", c="d", d="be", e="", f="a")
REST = chip_of(rests="bf", a="b", b="cd", c="", d="e", e="", f="")


def subsets(names):
    return [row for count in range(len(names) + 1) for row in itertools.combinations(names, count)]


def small_chips():
    """All chips of three isles, whichever needs they have, without and with one that rests."""
    rows = [subsets([other for other in "abc" if other != name]) for name in "abc"]
    return [chip_of(rests=rests, a=a, b=b, c=c) for a, b, c in itertools.product(*rows) for rests in ("", "b")]


def rings(chip, name):
    """All rings of needs that begin with an isle."""
    found = []
    for count in range(2, len(chip) + 1):
        for row in itertools.permutations(chip.names, count):
            if row[0] == name and all(other in chip[one].needs for one, other in zip(row, row[1:] + row[:1])):
                found.append(row)
    return found


class SleeplessTest(unittest.TestCase):

    def test_rows_and_rings(self):
        for chip, told in ((ROW, ""), (RING, "abc"), (RINGS, "abcde"), (REST, "bcdef"), (chip_of(rests="a", a=""), "a"),
                           (chip_of(rests="c", a="b", b="c", c=""), "c"), (chip_of(rests="a", a="b", b="c", c=""), "abc")):
            self.assertEqual(sleepless(chip), tuple(told))

    def test_all_small_chips(self):
        for chip in small_chips():
            told = [name for name in chip.names if not chip[name].sleeps or rings(chip, name)]
            for _ in chip.names:
                told += [name for name in chip.names if name not in told and any(name in chip[one].needs for one in told)]
            self.assertEqual(sleepless(chip), tuple(sorted(told)))


class ReasonsTest(unittest.TestCase):

    def test_each_reason(self):
        self.assertEqual(reasons(ROW), {"a": ("rank", 0), "b": ("rank", 1), "c": ("rank", 2)})
        self.assertEqual(reasons(RING), {"a": ("ring", ("a", "b", "c")), "b": ("ring", ("b", "c", "a")),
                                         "c": ("ring", ("c", "a", "b")), "d": ("rank", 0), "e": ("rank", 0),
                                         "f": ("rank", 1)})
        self.assertEqual(reasons(RINGS), {"a": ("ring", ("a", "b")), "b": ("ring", ("b", "a")),
                                          "c": ("ring", ("c", "d", "b")), "d": ("ring", ("d", "b", "c")),
                                          "e": ("needed", "d"), "f": ("rank", 0)})
        self.assertEqual(reasons(REST), {"a": ("rank", 0), "b": ("rests",), "c": ("needed", "b"), "d": ("needed", "b"),
                                         "e": ("needed", "d"), "f": ("rests",)})

    def test_the_first_reason_that_applies(self):
        chip = chip_of(rests="a", a="b", b="a", c="d", d="ce", e="d", f="g", g="")
        self.assertEqual(reasons(chip), {"a": ("rests",), "b": ("ring", ("b", "a")), "c": ("ring", ("c", "d")),
                                         "d": ("ring", ("d", "c")), "e": ("ring", ("e", "d")), "f": ("rank", 0),
                                         "g": ("rank", 1)})

    def test_the_least_of_several(self):
        chip = chip_of(a="cb", b="d", c="d", d="ae", e="", f="e", g="e")
        self.assertEqual([reasons(chip)[name] for name in "ad"], [("ring", ("a", "b", "d")), ("ring", ("d", "a", "b"))])
        chip = chip_of(rests="bcd", a="e", b="e", c="e", d="", e="")
        self.assertEqual([reasons(chip)["e"], reasons(chip)["a"]], [("needed", "b"), ("rank", 0)])

    def test_ranks_are_the_longest_ways(self):
        chip = chip_of(a="bd", b="c", c="d", d="", e="d")
        self.assertEqual(reasons(chip), {"a": ("rank", 0), "b": ("rank", 1), "c": ("rank", 2), "d": ("rank", 3),
                                         "e": ("rank", 0)})

    def test_all_small_chips(self):
        for chip in small_chips():
            told = reasons(chip)
            self.assertEqual(list(told) and sorted(told), list(chip.names))
            for name in chip.names:
                found = rings(chip, name)
                if not chip[name].sleeps:
                    self.assertEqual(told[name], ("rests",))
                elif found:
                    self.assertEqual(told[name], ("ring", min(found, key=lambda row: (len(row), row))))
                elif name in sleepless(chip):
                    above = [other for other in chip.names if name in chip[other].needs and other in sleepless(chip)]
                    self.assertEqual(told[name], ("needed", above[0]))
                else:
                    above = [told[other][1] for other in chip.names if name in chip[other].needs]
                    self.assertEqual(told[name], ("rank", max(above, default=-1) + 1))
            self.assertIs(lets_reasons(chip, told), True)

    def test_the_dict_belongs_to_the_caller(self):
        told = reasons(ROW)
        told["a"] = None
        self.assertEqual(reasons(ROW)["a"], ("rank", 0))


class LetsReasonsTest(unittest.TestCase):

    def lets(self, chip, told, **changes):
        thing = {**reasons(chip), **changes}
        before = copied(thing)
        self.assertIs(lets_reasons(chip, thing), told, changes)
        self.assertIs(lets_reasons(chip=chip, thing=dict(reversed(list(thing.items())))), told)
        self.assertEqual(thing, before)

    def test_other_ranks(self):
        for a, b, c in itertools.product((0, 1, 2, 5, 10 ** 59), repeat=3):
            self.lets(ROW, a < b < c, a=("rank", a), b=("rank", b), c=("rank", c))
        for value in (-1, True, False, None, "0", (0,), [0], {}):
            self.lets(ROW, False, a=("rank", value))
        self.lets(ROW, False, a=("rank", False))
        self.lets(ROW, False, b=("rank", True))

    def test_ranks_need_ranks_above(self):
        self.lets(RINGS, False, e=("rank", 9))
        self.lets(REST, False, c=("rank", 9))
        self.lets(REST, False, f=("rank", 0))
        self.lets(REST, True, a=("rank", 7))

    def test_rests(self):
        self.lets(REST, True)
        for thing in (("rests",), ("rests", 1), ("rests", ()), ["rests"], "rests", ("rest",)):
            self.lets(REST, thing == ("rests",), b=thing)
            self.lets(REST, False, a=thing)

    def test_other_rings(self):
        self.lets(RINGS, True, b=("ring", ("b", "c", "d")))
        for ring in ((), ("b",), ("a", "b"), ("b", "a", "b", "a"), ("b", "c"), ("b", "d", "c"), ("b", "a", "c"), ("b", "z"),
                     ["b", "a"], "ba", None, ("b", None), ("b", ["a"]), ("b", {}), {"b": "a"}, ("b", "a", "f"), 7,
                     ("b", "a") * 2500):
            self.lets(RINGS, False, b=("ring", ring))
        self.lets(RINGS, False, f=("ring", ("f", "a", "b")))
        # f needs a, but does not begin a ring of it.
        self.lets(RINGS, False, a=("ring", ("f",)))
        for thing in (("ring",), ("ring", ("a", "b"), 1), ("ring", "a", "b"), ["ring", ("a", "b")], ("rings", ("a", "b"))):
            self.lets(RINGS, False, a=thing)
        self.lets(chip_of(rests="a", a="b", b="a"), True, a=("ring", ("a", "b")))
        self.lets(chip_of(rests="a", a="b", b=""), False, a=("ring", ("a", "b")))

    def test_needed_by_any_one_without_a_rank(self):
        chip = chip_of(rests="b", a="b", b="c", c="d", d="c", e="c", f="")
        self.lets(chip, True, c=("needed", "b"))
        self.lets(chip, True, c=("needed", "d"))
        self.lets(chip, True, d=("needed", "c"), c=("needed", "d"))
        for value in ("a", "c", "e", "f", "z", "", None, 1, True, ("b",), ["b"], {}):
            self.lets(chip, False, c=("needed", value))
        for thing in (("needed",), ("needed", "b", 1), ("needed", "b", "d"), ["needed", "b"], ("need", "b")):
            self.lets(chip, False, c=thing)
        self.lets(chip, False, e=("needed", "c"))
        self.lets(chip, False, f=("needed", "b"))

    def test_values_of_other_forms(self):
        for value in ANY:
            self.assertIs(lets_reasons(ROW, value), False)
            self.lets(ROW, False, b=value)
            self.lets(ROW, False, b=(value, 1))
            self.lets(RINGS, False, e=("needed", value))
            self.lets(RINGS, value == ("a", "b"), a=("ring", value))
            self.lets(RINGS, value == "b", a=("ring", ("a", value)))
        self.lets(ROW, False, b=["rank", 1])
        self.lets(ROW, False, b=("rank", 1, 1))
        self.lets(ROW, False, b=("rank",))
        self.lets(ROW, False, b=("ranks", 1))

    def test_keys(self):
        right = reasons(ROW)
        self.assertIs(lets_reasons(ROW, {**right, "d": ("rank", 0)}), False)
        self.assertIs(lets_reasons(ROW, {"a": right["a"], "b": right["b"]}), False)
        for key in ("d", "A", None, 1, ("c",)):
            self.assertIs(lets_reasons(ROW, {"a": right["a"], "b": right["b"], key: right["c"]}), False)
        self.assertIs(lets_reasons(ROW, list(right.items())), False)


class SleepersTest(unittest.TestCase):

    def test_properties(self):
        some = Sleepers(ROW, "b", "a", "b")
        self.assertEqual([some.chip, some.names, len(some)], [ROW, ("a", "b"), 2])
        self.assertEqual([Sleepers(ROW).names, len(Sleepers(ROW))], [(), 0])
        for value in ANY + ["c", "d", "shore"]:
            self.assertIs(value in some, value in ("a", "b"))
        for kind in (list, tuple):
            self.assertEqual(Sleepers.of(ROW, kind("ba")), some)
            self.assertEqual(Sleepers.of(chip=ROW, names=kind("")), Sleepers(ROW))

    def test_values_that_are_no_isles(self):
        for value in [each for each in ANY if each not in ("a", "b")] + ["d", "shore"]:
            for work, given in ((Sleepers, ("c", value, None)), (Sleepers.of, (("c", value, None),)),
                                (Sleepers.of, (["c", value, None],))):
                error = error_of(work, ROW, *given)
                self.assertEqual((type(error), error.which), (NoIsle, value))

    def test_isles_that_cannot_sleep(self):
        for chip, names, which in ((ROW, "b", "b"), (ROW, "c", "c"), (ROW, "ca", "c"), (ROW, "cb", "b"), (RING, "da", "a"),
                                   (RING, "fcd", "c"), (RING, "fd", "f"), (REST, "af", "f"), (REST, "b", "b"),
                                   (REST, "ad", "d"), (REST, "edcb", "b")):
            for row in (names, names[::-1]):
                error = error_of(Sleepers, chip, *row)
                self.assertEqual((type(error), error.which), (CannotSleep, which))
        self.assertEqual(raised(Sleepers, ROW, "b", "z"), "NoIsle('z')")

    def test_every_and_widest(self):
        self.assertEqual([each.names for each in Sleepers.every(ROW)], [(), ("a",), ("a", "b"), ("a", "b", "c")])
        self.assertEqual([each.names for each in Sleepers.every(RING)],
                         [(), ("d",), ("d", "e"), ("d", "e", "f"), ("e",), ("e", "f")])
        self.assertEqual([Sleepers.widest(chip).names for chip in (ROW, RING, RINGS, REST)],
                         [("a", "b", "c"), ("d", "e", "f"), ("f",), ("a",)])
        alone = chip_of(rests="a", a="")
        self.assertEqual([[each.names for each in Sleepers.every(alone)], Sleepers.widest(alone).names], [[()], ()])

    def test_every_of_all_small_chips(self):
        for chip in small_chips():
            told = [each.names for each in Sleepers.every(chip)]
            right = sorted(names for names in subsets(chip.names) if raised(Sleepers, chip, *names) is None)
            self.assertEqual(told, right)
            for names in subsets(chip.names):
                closed = all(other in names for other in chip.names for name in names if name in chip[other].needs)
                self.assertEqual(names in told, closed and not any(name in sleepless(chip) for name in names))
            self.assertIn(Sleepers.widest(chip).names, told)
            self.assertEqual(Sleepers.widest(chip).names, tuple(name for name in "abc" if name not in sleepless(chip)))

    def test_many_isles(self):
        free = chip_of(**{name: "" for name in "abcdefgh"})
        told = Sleepers.every(free)
        self.assertEqual([len(told), told[0].names, told[1].names, told[-1].names], [256, (), ("a",), ("h",)])
        told.clear()
        self.assertEqual(len(Sleepers.every(free)), 256)

    def test_joined_common_and_within(self):
        chip = chip_of(a="b", b="", c="d", d="", e="")
        some = [Sleepers(chip, *names) for names in ("", "a", "ab", "abe", "ac", "abcd", "cd", "e")]
        again = chip_of(e="", a="b", b="", c="d", d="")
        for one, other in itertools.product(some, some):
            same = Sleepers(again, *other.names)
            self.assertEqual(one.joined(same).names, tuple(sorted(set(one.names) | set(other.names))))
            self.assertEqual(one.common(same).names, tuple(sorted(set(one.names) & set(other.names))))
            self.assertIs(one.within(same), set(one.names) <= set(other.names))
            self.assertIs(one == same, one.names == other.names)
            self.assertIs(one != same, one.names != other.names)
            self.assertEqual([type(one.joined(same)), one.joined(same).chip], [Sleepers, chip])

    def test_equality(self):
        self.assertNotEqual(Sleepers(ROW, "a"), Sleepers(RINGS.with_isles(Isle("a")), "f"))
        self.assertNotEqual(Sleepers(ROW, "a"), Sleepers(ROW.with_isles(Isle("d")), "a"))
        for value in ANY + [ROW, Isle("a")]:
            self.assertIs(Sleepers(ROW, "a") == value, False)
            self.assertIs(value == Sleepers(ROW, "a"), False)

    def test_orders(self):
        chip = chip_of(a="", b="", c="a", d="bc", e="")
        for names, order in (("", ""), ("d", "d"), ("dc", "dc"), ("dcab", "dbca"), ("dcabe", "dbcae"), ("e", "e"), ("ed", "de"),
                             ("dbe", "dbe")):
            self.assertEqual(Sleepers(chip, *names).order(), tuple(order))

    def test_orders_of_all_small_chips(self):
        for chip in small_chips():
            for some in Sleepers.every(chip):
                right = min(row for row in itertools.permutations(some.names)
                            if all(row.index(other) < row.index(name) for name in row for other in row
                                   if name in chip[other].needs))
                self.assertEqual(some.order(), right)

    def test_deeds(self):
        chip = Chip(Isle("a", sleep=("dark", "still")), Isle("b", needs=("a",), sleep=("save",)), Isle("c"))
        a, b, c = ("deed", "a"), ("deed", "b"), ("deed", "c")
        self.assertEqual(Sleepers(chip, "a", "b", "c").deeds(), [b, a, a, c, c, c, c])
        self.assertEqual([Sleepers(chip, "b").deeds(), Sleepers(chip).deeds()], [[b], []])
        some = Sleepers(chip, "b")
        some.deeds().append(a)
        self.assertEqual(some.deeds(), [b])


if __name__ == "__main__":
    unittest.main()
