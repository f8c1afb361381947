"""Places where the power of an isle is used for a line or a station, and chips in which the shore takes their part."""

from duskisles.chips import Chip
from duskisles.errors import NoSpot
from duskisles.wires import Wire


def spot_row(chip):
    """The ascending tuple of all spots of a chip."""
    rows = [("leash", name, index) for name in chip.names for index, _ in enumerate(chip[name].leash)]
    for name in chip.wires:
        for index, station in enumerate(chip.wire(name).stations):
            rows.extend([("line", name, index, other) for other, _ in enumerate(station.line)])
            if station.on != "shore":
                rows.append(("station", name, index))
    return tuple(sorted(rows))


def is_spot(known, value):
    """Whether any value is one of these spots; True is no index."""
    return value in known and not any([isinstance(part, bool) for part in value])


def check_spots(known, values):
    """Raises NoSpot for the first of any values that is none of these spots."""
    for value in values:
        if not is_spot(known, value):
            raise NoSpot(value)


def with_propped(chip, chosen):
    """The chip with spots of it propped, all at once. Raises NoSpot for the first of any values that is none."""
    check_spots(spot_row(chip), chosen)
    isles = [_propped_isle(chip[name], chosen) for name in chip.names]
    wires = [_propped_wire(chip.wire(name), chosen) for name in chip.wires]
    return Chip.of(isles, wires, chip.shore)


def _propped_isle(isle, chosen):
    """The isle without those of its leash that are propped."""
    leash = [other for index, other in enumerate(isle.leash) if ("leash", isle.name, index) not in chosen]
    return isle if len(leash) == len(isle.leash) else isle.changed(leash=tuple(leash))


def _propped_wire(wire, chosen):
    """The wire with its stations propped."""
    if wire.name not in [spot[1] for spot in chosen if spot[0] != "leash"]:
        return wire
    stations = []
    for index, station in enumerate(wire.stations):
        gone = [other for other, _ in enumerate(station.line) if ("line", wire.name, index, other) in chosen]
        stations.append(station.propped(on=("station", wire.name, index) in chosen, line=tuple(gone)))
    return Wire.of(wire.name, wire.driver, wire.reader, stations)
