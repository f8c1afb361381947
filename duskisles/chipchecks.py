"""What may be a chip: the faults that isles, wires and a shore have together, in the order in which they are told."""

from duskisles.errors import InvalidChip
from duskisles.isles import Isle
from duskisles.names import is_integer
from duskisles.wires import Wire

MOST_ISLES = 8
MOST_WIRES = 24
MOST_SHORE = 3


def check_chip(isles, wires, shore):
    """Raises InvalidChip for the first fault of any values, if they have one; isles are a tuple."""
    if not 1 <= len(isles) <= MOST_ISLES or not all([isinstance(isle, Isle) for isle in isles]):
        raise InvalidChip("isles", None)
    _check_twins("isles", isles)
    if not isinstance(wires, tuple) or len(wires) > MOST_WIRES or not all([isinstance(wire, Wire) for wire in wires]):
        raise InvalidChip("wires", None)
    _check_twins("wires", wires)
    if not is_integer(shore) or not 1 <= shore <= MOST_SHORE:
        raise InvalidChip("shore", None)
    places = ["shore", *[isle.name for isle in isles]]
    _check_isles(_by_name(isles), places)
    _check_wires(_by_name(wires), places)


def _by_name(things):
    """The isles or wires by ascending names."""
    return sorted(things, key=lambda thing: thing.name)


def _check_twins(part, things):
    """Raises InvalidChip for the first thing whose name an earlier one has."""
    names = [thing.name for thing in things]
    if len(set(names)) < len(names):
        for index, name in enumerate(names):
            if name in names[:index]:
                raise InvalidChip(part, name)


def _check_isles(isles, places):
    """Raises InvalidChip for the first isle whose leash, then for the first one whose needs name no isle."""
    if _are_known([name for isle in isles for name in (*isle.leash, *isle.needs)], places):
        return
    for isle in isles:
        if not _are_known(isle.leash, places):
            raise InvalidChip("leash", isle.name)
    for isle in isles:
        if not _are_known(isle.needs, places):
            raise InvalidChip("needs", isle.name)


def _check_wires(wires, places):
    """Raises InvalidChip for the first wire with a part that names no isle."""
    # Mostly nothing is wrong, and then it is not asked what it is.
    if _are_known([name for wire in wires for name in _names_on(wire)], places):
        return
    for wire in wires:
        stations = wire.stations
        parts = (("driver", [wire.driver]), ("reader", [wire.reader]), ("on", [station.on for station in stations]),
                 ("owner", [station.owner for station in stations if station.owner is not None]),
                 ("line", [name for station in stations for name in station.line]))
        for part, names in parts:
            if not _are_known(names, places):
                raise InvalidChip(part, wire.name)


def _names_on(wire):
    """The list of all places that a wire names."""
    names = [wire.driver, wire.reader]
    for station in wire.stations:
        names.append(station.on)
        if station.owner is not None:
            names.append(station.owner)
            names.extend(station.line)
    return names


def _are_known(names, places):
    """Whether all these are places of the chip; the shore stands only where it may."""
    return len(set(names) - set(places)) == 0
