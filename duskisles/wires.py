"""Wires: ways from a driver over stations to a reader."""

from duskisles.errors import InvalidName, InvalidWire
from duskisles.names import is_name, is_own_name
from duskisles.stations import Station

MOST_STATIONS = 5


class Wire:
    """A wire with its driver, its reader and its stations from the driver on. It never changes."""

    def __init__(self, name, driver, reader, *stations):
        if not is_own_name(name):
            raise InvalidName(name)
        if not is_name(driver):
            raise InvalidWire(name, "driver")
        if not is_name(reader) or reader == driver:
            raise InvalidWire(name, "reader")
        if len(stations) > MOST_STATIONS or not all([isinstance(station, Station) for station in stations]):
            raise InvalidWire(name, "stations")
        self._name = name
        self._driver = driver
        self._reader = reader
        self._stations = stations

    @classmethod
    def of(cls, name, driver, reader, stations):
        """The wire with the stations of a list or tuple."""
        # What is neither becomes one wrong station, so that the errors and their order are those of the class.
        row = stations if isinstance(stations, (list, tuple)) else (None,)
        return cls(name, driver, reader, *row)

    @property
    def name(self):
        """The name."""
        return self._name

    @property
    def driver(self):
        """The place from which it comes."""
        return self._driver

    @property
    def reader(self):
        """The place to which it leads."""
        return self._reader

    @property
    def stations(self):
        """The tuple of its stations, from the driver on."""
        return self._stations

    def owners(self):
        """The ascending names of the owners of its clamps."""
        return tuple(sorted({station.owner for station in self._stations if station.owner is not None}))

    def lines(self):
        """The ascending names of the isles of all lines of its clamps."""
        return tuple(sorted({name for station in self._stations for name in station.line}))

    def places(self):
        """The ascending names of the isles on which its stations are."""
        return tuple(sorted({station.on for station in self._stations if station.on != "shore"}))

    def __len__(self):
        return len(self._stations)

    def __eq__(self, other):
        return (isinstance(other, Wire) and self._name == other._name and self._driver == other._driver
                and self._reader == other._reader and self._stations == other._stations)

    def __repr__(self):
        return f"Wire({self._name}: {self._driver} to {self._reader})"
