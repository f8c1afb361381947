"""Walks along wires: which mark is behind the driver and behind each station."""

from duskisles.dark import dusty
from duskisles.moves import away_mask, driver_mark, shut_mask
from duskisles.stations import Holding


def along(chip, name, *, begins, dark=(), shut=(), held=()):
    """The marks behind the driver and behind each station, if the mark behind the driver, the isles that are dark,
    the owners that are shut and the held marks of this wire are these."""
    wire = chip.wire(name)
    marks = [begins]
    for station, mark in zip(wire.stations, _held_marks(wire, held)):
        marks.append(station.handed(marks[-1], dark=station.on in dark, dusty=dusty(station.line, dark),
                                    shut=station.owner in shut, held=mark))
    return tuple(marks)


def walk(chip, name, state):
    """The marks behind the driver and behind each station in a state."""
    wire = chip.wire(name)
    plan = chip.plan()
    track = plan.track_of_wire(wire.name)
    dark = plan.dark_mask(away_mask(state[0]))
    return along(chip, name, begins=driver_mark(plan, state[0], track, dark), dark=plan.names_in(dark),
                 shut=plan.names_in(shut_mask(state[0])), held=track.held_in(state[1]))


def source(chip, name, state):
    """Where the mark at the end of the wire comes from in a state: the last cause along the wire."""
    stations = chip.wire(name).stations
    plan = chip.plan()
    dark = plan.names_in(plan.dark_mask(away_mask(state[0])))
    shut = plan.names_in(shut_mask(state[0]))
    found = ("driver",)
    for index, station in enumerate(stations):
        cause = _cause(station, dark, shut)
        if cause is not None:
            found = (cause, index)
    return found


def _held_marks(wire, held):
    """The list of the held marks by stations, "open" for stations that hold nothing."""
    marks = []
    ahead = 0
    for station in wire.stations:
        holds = isinstance(station, Holding) and ahead < len(held)
        marks.append(held[ahead] if holds else "open")
        ahead += 1 if holds else 0
    return marks


def _cause(station, dark, shut):
    """The word for what makes the mark behind a station, or None if it hands on what comes."""
    if station.on in dark:
        return "place"
    if dusty(station.line, dark):
        return "line"
    if station.owner in shut:
        return "held" if isinstance(station, Holding) else "gives"
    return None
