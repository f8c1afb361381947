"""The lines of the text of a chip."""

from duskisles.isles import Isle
from duskisles.stations import Clamp, Holding


def chip_lines(shore, isles, wires):
    """The list of the lines of a text with these isles and wires, in this order."""
    lines = [f"shore {shore}"]
    for isle in isles:
        lines.extend(_isle_lines(isle))
    for wire in wires:
        lines.append(f"wire {wire.name} {wire.driver} {wire.reader}")
        lines.extend([_station_line(wire.name, station) for station in wire.stations])
    return lines


def _isle_lines(isle):
    """The list of the lines of an isle; what is the default needs none."""
    lines = [f"isle {isle.name} {isle.kept} {isle.plain}"]
    if isle.leash != ():
        lines.append(_kind_line("leash", isle.name, isle.leash))
    if isle.needs != ():
        lines.append(_kind_line("needs", isle.name, isle.needs))
    if not isle.sleeps:
        lines.append(f"rests {isle.name}")
    if isle.sleep != Isle.SLEEP:
        lines.append(_kind_line("sleep", isle.name, isle.sleep))
    if isle.wake != Isle.WAKE:
        lines.append(_kind_line("wake", isle.name, isle.wake))
    lines.extend([f"turn {isle.name} {row} {begin} {end}" for row, begin, end in isle.turns])
    return lines


def _station_line(name, station):
    """The line of a station of the wire with this name."""
    if isinstance(station, Holding):
        return _kind_line("hold", name, (station.on, station.owner, *station.line))
    if isinstance(station, Clamp):
        return _kind_line("clamp", name, (station.on, station.owner, str(station.gives), *station.line))
    return _kind_line("pass", name, (station.on,))


def _kind_line(kind, name, words):
    """The line of a kind, of the isle or wire with this name, with more words."""
    return " ".join([kind, name, *words])
