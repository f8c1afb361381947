"""[5], [11], duskisles/stations.py: passes, clamps, holding clamps."""

import itertools
import unittest

from duskisles.errors import InvalidStation
from duskisles.stations import Clamp, Holding, Pass, Station
from values import ANY, error_of, is_assigned, raised

MARKS = ("clean", "older", "dust")
BITS = (False, True)
BAD_ON = [None, True, 0, "", "A", "abcdefghi", ("a",), ["a"], {}]
BAD_OWNER = BAD_ON + ["shore"]
BAD_GIVES = [2, -1, True, False, None, "0", (0,), [], {}]
BAD_LINE = [("a", "a"), ("shore",), ("a", "b", "c", "d", "e"), ["a"], "a", None, {}, (1,), ({},), 0]
LINE = ("a", "b", "c", "d")


class PartsTest(unittest.TestCase):

    def refused(self, part, work, *values, **named):
        error = error_of(work, *values, **named)
        self.assertEqual((type(error), error.part), (InvalidStation, part))

    def test_properties_of_a_pass(self):
        for place in ("a", "shore", "abcdefgh"):
            station = Pass(place)
            self.assertEqual([station.on, station.owner, station.gives, station.line], [place, None, None, ()])
        self.assertEqual(Pass(on="a"), Pass("a"))

    def test_properties_of_a_clamp(self):
        station = Clamp("b", "a")
        self.assertEqual([station.on, station.owner, station.gives, station.line], ["b", "a", 0, ()])
        station = Clamp(on="shore", owner="shores", gives=1, line=LINE)
        self.assertEqual([station.on, station.owner, station.gives, station.line], ["shore", "shores", 1, LINE])

    def test_properties_of_a_holding_clamp(self):
        station = Holding("b", "a")
        self.assertEqual([station.on, station.owner, station.gives, station.line], ["b", "a", None, ()])
        station = Holding(on="shore", owner="a", line=("b", "a"))
        self.assertEqual([station.on, station.owner, station.gives, station.line], ["shore", "a", None, ("b", "a")])
        self.assertRaises(TypeError, Holding, "b", "a", gives=0)

    def test_properties_cannot_be_assigned(self):
        for station in (Pass("a"), Clamp("a", "b"), Holding("a", "b")):
            for part in ("on", "owner", "gives", "line"):
                self.assertFalse(is_assigned(station, part, getattr(station, part)), part)

    def test_classes(self):
        self.assertTrue(issubclass(Pass, Station) and issubclass(Clamp, Station) and issubclass(Holding, Clamp))
        self.assertFalse(issubclass(Pass, Clamp) or issubclass(Clamp, Pass))
        self.assertRaises(TypeError, Station)
        self.assertRaises(TypeError, Clamp, "a", "b", 0)
        for kind in (Station, Pass, Clamp, Holding):
            for name in ("handed", "propped", "on", "owner", "gives", "line"):
                self.assertIn(name, vars(kind), kind)

    def test_each_wrong_part(self):
        for value in BAD_ON:
            self.refused("on", Pass, value)
            self.refused("on", Clamp, value, "a")
            self.refused("on", Holding, value, "a")
        for value in BAD_OWNER:
            self.refused("owner", Clamp, "a", value)
            self.refused("owner", Holding, "a", value)
        for value in BAD_GIVES:
            self.refused("gives", Clamp, "a", "b", gives=value)
        for value in BAD_LINE:
            self.refused("line", Clamp, "a", "b", line=value)
            self.refused("line", Holding, "a", "b", line=value)

    def test_two_wrong_parts_at_once(self):
        self.refused("on", Clamp, 1, 1, gives=2, line=1)
        self.refused("owner", Clamp, "a", 1, gives=2, line=1)
        self.refused("gives", Clamp, "a", "b", gives=2, line=1)
        self.refused("on", Holding, 1, 1, line=1)
        self.refused("owner", Holding, "a", 1, line=1)

    def test_any_value_is_right_or_refused(self):
        for value in ANY:
            for part, work in (("on", lambda: Pass(value)), ("on", lambda: Clamp(value, "b")),
                               ("on", lambda: Holding(value, "b")), ("owner", lambda: Clamp("b", value)),
                               ("owner", lambda: Holding("b", value)), ("gives", lambda: Clamp("b", "a", gives=value)),
                               ("line", lambda: Clamp("b", "a", line=value)),
                               ("line", lambda: Holding("b", "a", line=value))):
                try:
                    self.assertEqual(getattr(work(), part), value)
                except InvalidStation as error:
                    self.assertEqual(error.part, part)


class HandedTest(unittest.TestCase):

    def test_a_pass_looks_at_its_place_alone(self):
        for mark, dark, dusty, shut, held in itertools.product(MARKS, BITS, BITS, BITS, MARKS + ("open",)):
            told = Pass("a").handed(mark, dark=dark, dusty=dusty, shut=shut, held=held)
            self.assertEqual(told, "dust" if dark else mark)

    def test_a_clamp_gives_clean_while_it_is_shut(self):
        for mark, dark, dusty, shut, held in itertools.product(MARKS, BITS, BITS, BITS, MARKS + ("open",)):
            told = Clamp("a", "b", gives=1).handed(mark, dark=dark, dusty=dusty, shut=shut, held=held)
            right = {(False, False): mark, (False, True): "clean"}.get((dark or dusty, shut), "dust")
            self.assertEqual(told, right)

    def test_a_holding_clamp_gives_what_it_holds(self):
        for mark, dark, dusty, shut, held in itertools.product(MARKS, BITS, BITS, BITS, MARKS + ("open",)):
            told = Holding("a", "b").handed(mark, dark=dark, dusty=dusty, shut=shut, held=held)
            right = {(False, False): mark, (False, True): held}.get((dark or dusty, shut), "dust")
            self.assertEqual(told, right)


class ProppedTest(unittest.TestCase):

    def test_without_arguments_nothing_is_otherwise(self):
        for station in (Pass("a"), Clamp("a", "b", gives=1, line=LINE), Holding("a", "b", line=LINE)):
            self.assertEqual(station.propped(), station)
            self.assertIs(type(station.propped()), type(station))

    def test_on_puts_it_on_the_shore(self):
        self.assertEqual(Pass("a").propped(on=True), Pass("shore"))
        self.assertEqual(Clamp("a", "b", gives=1, line=LINE).propped(on=True), Clamp("shore", "b", gives=1, line=LINE))
        self.assertEqual(Holding("a", "b", line=LINE).propped(on=True), Holding("shore", "b", line=LINE))
        self.assertEqual(Pass("a").propped(on=False), Pass("a"))
        self.assertEqual(Pass("shore").propped(on=True), Pass("shore"))

    def test_indexes_leave_isles_of_the_line_out(self):
        for count in range(5):
            for gone in itertools.permutations(range(4), count):
                left = tuple(LINE[index] for index in range(4) if index not in gone)
                clamp = Clamp("a", "b", gives=1, line=LINE)
                self.assertEqual(clamp.propped(line=gone), Clamp("a", "b", gives=1, line=left))
                self.assertEqual(clamp.propped(on=True, line=gone), Clamp("shore", "b", gives=1, line=left))
                holding = Holding("a", "b", line=LINE)
                self.assertEqual(holding.propped(line=gone), Holding("a", "b", line=left))
                self.assertIs(type(holding.propped(line=gone)), Holding)

    def test_the_old_station_stays(self):
        clamp, holding, simple = Clamp("a", "b", gives=1, line=LINE), Holding("a", "b", line=LINE), Pass("a")
        for station in (clamp, holding, simple):
            station.propped(on=True, line=(0, 3))
        self.assertEqual([clamp, holding, simple],
                         [Clamp("a", "b", gives=1, line=LINE), Holding("a", "b", line=LINE), Pass("a")])


class EqualityTest(unittest.TestCase):

    def stations(self):
        return [Pass("a"), Pass("b"), Pass("shore"), Clamp("a", "b"), Clamp("a", "c"), Clamp("b", "c"),
                Clamp("a", "b", gives=1), Clamp("a", "b", line=("c",)), Clamp("a", "b", line=("c", "d")),
                Clamp("a", "b", line=("d", "c")), Holding("a", "b"), Holding("a", "c"), Holding("b", "c"),
                Holding("a", "b", line=("c",))]

    def test_stations_are_equal_if_class_and_parts_are(self):
        for at, one in enumerate(self.stations()):
            for index, other in enumerate(self.stations()):
                self.assertIs(one == other, at == index, (at, index))
                self.assertIs(one != other, at != index, (at, index))

    def test_nothing_else_is_equal_to_a_station(self):
        for station in self.stations():
            for value in ANY:
                self.assertIs(station == value, False)
                self.assertIs(value == station, False)


if __name__ == "__main__":
    unittest.main()
