"""Places where the power of an isle is used for a line or a station, and chips in which the shore takes their part."""

from duskisles.chips import Chip
from duskisles.errors import NoSpot
from duskisles.tracks import Track
from duskisles.wires import Wire


def spot_row(chip):
    """The ascending tuple of all spots of a chip."""
    rows = [("leash", name, index) for name in chip.names for index, _ in enumerate(chip[name].leash)]
    for name in chip.wires:
        for index, station in enumerate(chip.wire(name).stations):
            rows.extend([("line", name, index, other) for other, _ in enumerate(station.line)])
            if station.on != "shore":
                rows.append(("station", name, index))
    return tuple(sorted(rows))


def is_spot(known, value):
    """Whether any value is one of these spots; True is no index."""
    return value in known and not any([isinstance(part, bool) for part in value])


def check_spots(known, values):
    """Raises NoSpot for the first of any values that is none of these spots."""
    for value in values:
        if not is_spot(known, value):
            raise NoSpot(value)


def with_propped(chip, chosen):
    """The chip with spots of it propped, all at once. Raises NoSpot for the first of any values that is none."""
    check_spots(spot_row(chip), chosen)
    isles = [_propped_isle(chip[name], chosen) for name in chip.names]
    wires = [_propped_wire(chip.wire(name), chosen) for name in chip.wires]
    return Chip.of(isles, wires, chip.shore)


def spot_isles(chip, known):
    """The list of (bit, spot, isle) for these spots of the chip: the isle, as a bit, is the one whose power is used
    there. Spots with lesser indexes have lesser bits."""
    bits = chip.plan().bits
    rows = []
    for index, spot in enumerate(known):
        if spot[0] == "leash":
            name = chip[spot[1]].leash[spot[2]]
        else:
            station = chip.wire(spot[1]).stations[spot[2]]
            name = station.on if spot[0] == "station" else station.line[spot[3]]
        rows.append((1 << index, spot, bits[name]))
    return rows


def plan_with(plan, rows, left, tracks):
    """The plan in which of these spots, as `spot_isles` tells them, those with these bits are left and no others, and
    in which there are no tracks but these."""
    leash_masks = [0 for _ in plan.isle_row]
    # For each station of a wire the isle that is its place, and those of its line.
    powers = {track.wire_name: [[0, 0] for _ in track.stops] for track in tracks}
    for bit, spot, isle in rows:
        if left & bit:
            if spot[0] == "leash":
                at = plan.index_of[spot[1]]
                leash_masks[at] = leash_masks[at] | isle
            elif spot[1] in powers:
                power = powers[spot[1]][spot[2]]
                part = 0 if spot[0] == "station" else 1
                power[part] = power[part] | isle
    return plan.powered(leash_masks, [_powered_track(track, powers[track.wire_name]) for track in tracks])


def _powered_track(track, power):
    """The track with these places and lines."""
    stops = tuple([(station, place, owner, line, holds)
                   for (station, _, owner, _, holds), (place, line) in zip(track.stops, power)])
    return Track(track.wire_name, (track.from_place, track.to_place), stops, track.first_held)


def _propped_isle(isle, chosen):
    """The isle without those of its leash that are propped."""
    leash = [other for index, other in enumerate(isle.leash) if ("leash", isle.name, index) not in chosen]
    return isle if len(leash) == len(isle.leash) else isle.changed(leash=tuple(leash))


def _propped_wire(wire, chosen):
    """The wire with its stations propped."""
    if wire.name not in [spot[1] for spot in chosen if spot[0] != "leash"]:
        return wire
    stations = []
    for index, station in enumerate(wire.stations):
        gone = [other for other, _ in enumerate(station.line) if ("line", wire.name, index, other) in chosen]
        stations.append(station.propped(on=("station", wire.name, index) in chosen, line=tuple(gone)))
    return Wire.of(wire.name, wire.driver, wire.reader, stations)
