"""[5], duskisles/wires.py: wires."""

import unittest

from duskisles.errors import InvalidName, InvalidWire
from duskisles.isles import Isle
from duskisles.stations import Clamp, Holding, Pass
from duskisles.wires import Wire
from values import ANY, error_of, is_assigned, raised

BAD_PLACES = [None, True, 0, "", "A", "abcdefghi", "a b", ("a",), ["a"], {}]
STATIONS = (Clamp("d", "c", line=("f", "b")), Pass("shore"), Holding("b", "a", line=("e", "b")), Pass("d"),
            Clamp("shore", "c"))


class WireTest(unittest.TestCase):

    def test_properties(self):
        wire = Wire("x", "a", "b")
        self.assertEqual([wire.name, wire.driver, wire.reader, wire.stations], ["x", "a", "b", ()])
        wire = Wire("abcdefgh", "shore", "b", *STATIONS)
        self.assertEqual([wire.name, wire.driver, wire.reader, wire.stations], ["abcdefgh", "shore", "b", STATIONS])
        self.assertIs(type(wire.stations), tuple)
        self.assertEqual(Wire("a", "a", "shore").reader, "shore")

    def test_properties_cannot_be_assigned(self):
        wire = Wire("x", "a", "b")
        for part in ("name", "driver", "reader", "stations"):
            self.assertFalse(is_assigned(wire, part, getattr(wire, part)))

    def test_wrong_names(self):
        for value in BAD_PLACES + ["shore"]:
            for rest in (("a", "b"), (None, None, None)):
                error = error_of(Wire, value, *rest)
                self.assertEqual((type(error), error.value), (InvalidName, value))
                error = error_of(Wire.of, value, *rest[:2], list(rest[2:]))
                self.assertEqual((type(error), error.value), (InvalidName, value))

    def refused(self, part, *values):
        for work, given in ((Wire, values), (Wire.of, (*values[:3], values[3:])), (Wire.of, (*values[:3], list(values[3:])))):
            error = error_of(work, *given)
            self.assertEqual((type(error), error.which, error.part), (InvalidWire, values[0], part))

    def test_wrong_ends(self):
        for value in BAD_PLACES:
            self.refused("driver", "x", value, "b")
            self.refused("driver", "x", value, "b", None)
            self.refused("driver", "x", value, value)
            self.refused("reader", "x", "a", value)
            self.refused("reader", "x", "a", value, None)
        for place in ("a", "shore"):
            self.refused("reader", "x", place, place)

    def test_wrong_stations(self):
        for value in ANY + [Isle("a"), Wire("x", "a", "b"), Pass, (Pass("a"),), [Pass("a")]]:
            self.refused("stations", "x", "a", "b", value)
            self.refused("stations", "x", "a", "b", Pass("a"), value)
        self.refused("stations", "x", "a", "b", *[Pass("a")] * 6)
        self.assertEqual(len(Wire("x", "a", "b", *[Pass("a")] * 5)), 5)

    def test_of_takes_lists_and_tuples(self):
        for stations in (list(STATIONS), STATIONS):
            wire = Wire.of("x", "a", "b", stations)
            self.assertEqual(wire, Wire("x", "a", "b", *STATIONS))
            self.assertIs(type(wire.stations), tuple)
        self.assertEqual(Wire.of("x", "a", "b", []), Wire("x", "a", "b"))
        self.assertEqual(Wire.of(name="x", driver="a", reader="b", stations=()), Wire("x", "a", "b"))
        for value in (None, 1, "", "ab", {}, Pass("a")):
            self.assertEqual(raised(Wire.of, "x", "a", "b", value), "InvalidWire('x', 'stations')")

    def test_a_list_may_be_changed_afterwards(self):
        stations = [Pass("a")]
        wire = Wire.of("x", "a", "b", stations)
        stations.append(Pass("b"))
        self.assertEqual([len(wire), wire.stations, len(stations)], [1, (Pass("a"),), 2])

    def test_length(self):
        for count in range(6):
            self.assertEqual(len(Wire.of("x", "a", "b", STATIONS[:count])), count)

    def test_owners_lines_and_places(self):
        wire = Wire.of("x", "y", "z", STATIONS)
        self.assertEqual(wire.owners(), ("a", "c"))
        self.assertEqual(wire.lines(), ("b", "e", "f"))
        self.assertEqual(wire.places(), ("b", "d"))
        many = [Clamp(place, owner, line=(place, owner)) for place, owner in ("kf", "ja", "ig", "hb", "lc")]
        wire = Wire("x", "a", "b", *many)
        self.assertEqual([wire.owners(), wire.lines(), wire.places()], [tuple("abcfg"), tuple("abcfghijkl"), tuple("hijkl")])
        bare = Wire("x", "a", "b", Pass("shore"))
        self.assertEqual([bare.owners(), bare.lines(), bare.places()], [(), (), ()])
        for told in (wire.owners(), wire.lines(), wire.places()):
            self.assertIs(type(told), tuple)

    def test_equality(self):
        wires = [Wire("x", "a", "b"), Wire("y", "a", "b"), Wire("x", "c", "b"), Wire("x", "a", "c"), Wire("x", "b", "a"),
                 Wire("x", "a", "b", Pass("a")), Wire("x", "a", "b", Clamp("a", "b")), Wire("x", "a", "b", Holding("a", "b")),
                 Wire("x", "a", "b", Pass("a"), Pass("b")), Wire("x", "a", "b", Pass("b"), Pass("a"))]
        for at, one in enumerate(wires):
            for index, other in enumerate(wires):
                again = Wire.of(other.name, other.driver, other.reader, other.stations)
                self.assertIs(one == again, at == index)
                self.assertIs(one != again, at != index)
            for value in ANY + [Isle("a"), Pass("a")]:
                self.assertIs(one == value, False)
                self.assertIs(value == one, False)

    def test_repr(self):
        self.assertEqual(repr(Wire("x", "a", "b")), "Wire(x: a to b)")
        self.assertEqual(repr(Wire("a", "shore", "c", Pass("c"))), "Wire(a: shore to c)")


if __name__ == "__main__":
    unittest.main()
