"""[9], duskisles/dark.py: dark isles and dusty leads."""

import itertools
import unittest

from duskisles.chips import Chip
from duskisles.dark import dark_isles, dusty, dusty_leads, under, way
from duskisles.errors import NoIsle
from duskisles.isles import Isle
from duskisles.stations import Clamp, Holding, Pass
from duskisles.wires import Wire
from values import ANY, copied, error_of, raised


def chip_of(**leashes):
    return Chip(*[Isle(name, leash=tuple(leash)) for name, leash in leashes.items()])


ROW = chip_of(a="b", b="c", c="d", d="")
RING = chip_of(a="b", b="c", c="ad", d="")
STRANGERS = [each for each in ANY if each not in ("a", "b")] + ["e", "x"]


def subsets(names):
    return [row for count in range(len(names) + 1) for row in itertools.combinations(names, count)]


def small_chips():
    """All chips of three isles, whichever leashes they have."""
    rows = [[row for row in subsets([other for other in "abc" if other != name])] for name in "abc"]
    return [chip_of(a=a, b=b, c=c) for a, b, c in itertools.product(*rows)]


def ways(chip, name, away):
    """All ways from an isle over leashes to one that is away, without an isle twice."""
    found, ahead = [], [(name,)]
    while ahead:
        path = ahead.pop()
        if path[-1] in away:
            found.append(path)
        ahead += [path + (other,) for other in chip[path[-1]].leash if other not in path]
    return found


class DarkTest(unittest.TestCase):

    def test_rows_of_leashes(self):
        for away, dark in (((), ""), ("a", "a"), ("b", "ab"), ("c", "abc"), ("d", "abcd"), ("ac", "abc"), ("abcd", "abcd")):
            for kind in (list, tuple):
                self.assertEqual(dark_isles(ROW, kind(away)), tuple(dark))

    def test_rings_of_leashes(self):
        for away, dark in (((), ""), ("a", "abc"), ("b", "abc"), ("c", "abc"), ("d", "abcd"), ("da", "abcd")):
            self.assertEqual(dark_isles(RING, list(away)), tuple(dark))

    def test_order_and_duplicates_mean_nothing(self):
        for away in (["d", "b"], ["b", "d"], ["b", "d", "b", "b"], ("d", "d", "b")):
            before = copied(away)
            self.assertEqual(dark_isles(chip_of(a="b", b="", c="", d=""), away), ("a", "b", "d"))
            self.assertEqual(away, before)
        self.assertEqual(dark_isles(chip=ROW, away=["a"]), ("a",))

    def test_all_small_chips(self):
        for chip in small_chips():
            for away in subsets("abc"):
                right = tuple(name for name in "abc" if ways(chip, name, away))
                self.assertEqual(dark_isles(chip, away), right)

    def test_values_that_are_no_isles(self):
        for value in STRANGERS:
            for work in (dark_isles, lambda chip, away: list(dusty_leads(chip, away)),
                         lambda chip, away: way(chip, away, "a"), lambda chip, away: way(chip, away, None)):
                error = error_of(work, ROW, ["a", value, None])
                self.assertEqual((type(error), error.which), (NoIsle, value))
        self.assertEqual(raised(dark_isles, ROW, ("shore",)), "NoIsle('shore')")


class DustyTest(unittest.TestCase):

    def test_leads(self):
        self.assertIs(dusty((), ("a",)), False)
        self.assertIs(dusty(("a",), ()), False)
        self.assertIs(dusty(("b", "a"), ["a"]), True)
        self.assertIs(dusty(("b", "a"), ("c", "b", "b")), True)
        self.assertIs(dusty(("b", "a"), ["c", "d"]), False)
        self.assertIs(dusty(lead=("a",), dark=("a",)), True)


class WayTest(unittest.TestCase):

    def test_shortest_of_several(self):
        chip = chip_of(a="cb", b="d", c="e", d="f", e="f", f="", g="hbf", h="f")
        for away, name, told in (("f", "a", "abdf"), ("e", "a", "ace"), ("ef", "a", "ace"), ("de", "a", "abd"), ("a", "a", "a"),
                                 ("af", "a", "a"), ("f", "g", "gf"), ("hb", "g", "gb"), ("f", "f", "f"), ("a", "f", None),
                                 ("", "a", None)):
            self.assertEqual(way(chip, list(away), name), None if told is None else tuple(told), (away, name))

    def test_least_although_another_row_is_first(self):
        # The least end is not at the end of the least way.
        chip = chip_of(a="cb", b="e", c="d", d="", e="")
        self.assertEqual(way(chip, ["d", "e"], "a"), ("a", "b", "e"))
        self.assertEqual(way(chip, ["d"], "a"), ("a", "c", "d"))

    def test_all_small_chips(self):
        for chip in small_chips():
            for away in subsets("abc"):
                for name in "abc":
                    found = ways(chip, name, away)
                    right = min(found, key=lambda row: (len(row), row)) if found else None
                    self.assertEqual(way(chip, list(away) * 2, name), right)

    def test_values_that_are_no_isles(self):
        for value in STRANGERS:
            error = error_of(way, ROW, ["a"], value)
            self.assertEqual((type(error), error.which), (NoIsle, value))
        self.assertEqual(raised(way, ROW, ["e"], "f"), "NoIsle('e')")


class UnderTest(unittest.TestCase):

    def test_ways_of_leashes(self):
        self.assertEqual([under(ROW, name) for name in "abcd"], [tuple("abcd"), tuple("bcd"), tuple("cd"), ("d",)])
        self.assertEqual([under(RING, name) for name in "abcd"], [tuple("abcd"), tuple("abcd"), tuple("abcd"), ("d",)])
        two = chip_of(a="b", b="", c="d", d="", e="")
        self.assertEqual([under(two), under(two, "c", "a"), under(two, "e", "e"), under(two, "d", "c")],
                         [(), tuple("abcd"), ("e",), ("c", "d")])

    def test_all_small_chips(self):
        for chip in small_chips():
            for names in subsets("abc"):
                right = tuple(name for name in "abc" if any(ways(chip, other, (name,)) for other in names))
                self.assertEqual(under(chip, *names), right)

    def test_values_that_are_no_isles(self):
        for value in STRANGERS:
            error = error_of(under, ROW, "a", value, None)
            self.assertEqual((type(error), error.which), (NoIsle, value))


class LeadsTest(unittest.TestCase):

    def setUp(self):
        isles = [Isle("a", leash=("c",)), Isle("b", leash=("d", "a")), Isle("c"), Isle("d")]
        wires = (Wire("y", "a", "b", Clamp("a", "b", line=("c",)), Pass("c"), Holding("a", "b", line=("d", "a")), Clamp("a", "b")),
                 Wire("a", "c", "shore", Holding("c", "c", line=("b",)), Clamp("c", "c", line=("d",))),
                 Wire("x", "c", "shore", Pass("c")))
        self.chip = Chip.of(isles, wires)

    def test_in_order(self):
        leash_a, leash_b = ("leash", "a"), ("leash", "b")
        a0, a1, y0, y2 = ("line", "a", 0), ("line", "a", 1), ("line", "y", 0), ("line", "y", 2)
        for away, told in (([], []), (["a"], [leash_b, a0, y2]), (["b"], [a0]), (["c"], [leash_a, leash_b, a0, y0, y2]),
                           (["d"], [leash_b, a0, a1, y2]), (("d", "c", "d"), [leash_a, leash_b, a0, a1, y0, y2])):
            self.assertEqual(list(dusty_leads(self.chip, away)), told)

    def test_two_generators_by_turns(self):
        one, two = dusty_leads(self.chip, ["a"]), dusty_leads(self.chip, ["d"])
        told = [next(one), next(two), next(two), next(one), next(two), next(one), next(two)]
        self.assertEqual(told, [("leash", "b"), ("leash", "b"), ("line", "a", 0), ("line", "a", 0), ("line", "a", 1),
                                ("line", "y", 2), ("line", "y", 2)])
        self.assertEqual([next(one, None), next(two, None)], [None, None])

    def test_fixed_at_the_first_item(self):
        away = ["a"]
        leads = dusty_leads(self.chip, away)
        first = next(leads)
        away[0] = "c"
        away.append("e")
        self.assertEqual([first, *leads], [("leash", "b"), ("line", "a", 0), ("line", "y", 2)])

    def test_errors_at_the_first_item(self):
        self.assertEqual(raised(next, dusty_leads(self.chip, ["a", "e"])), "NoIsle('e')")


if __name__ == "__main__":
    unittest.main()
