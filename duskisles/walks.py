"""Walks along wires: which mark is behind the driver and behind each station."""

from duskisles.dark import dark_isles, dusty
from duskisles.stations import Holding


def along(chip, name, *, begins, dark=(), shut=(), held=()):
    """The marks behind the driver and behind each station, if the mark behind the driver, the isles that are dark,
    the owners that are shut and the held marks of this wire are these."""
    wire = chip.wire(name)
    marks = [begins]
    for station, mark in zip(wire.stations, _held_marks(wire, held)):
        marks.append(station.handed(marks[-1], dark=station.on in dark, dusty=dusty(station.line, dark),
                                    shut=station.owner in shut, held=mark))
    return tuple(marks)


def walk(chip, name, state):
    """The marks behind the driver and behind each station in a state."""
    driver = chip.wire(name).driver
    dark = dark_in(chip, state)
    return along(chip, name, begins=first_mark(chip, driver, state, dark), dark=dark, shut=shut_in(chip, state),
                 held=held_on(chip, name, state))


def source(chip, name, state):
    """Where the mark at the end of the wire comes from in a state: the last cause along the wire."""
    stations = chip.wire(name).stations
    dark = dark_in(chip, state)
    shut = shut_in(chip, state)
    found = ("driver",)
    for index, station in enumerate(stations):
        cause = _cause(station, dark, shut)
        if cause is not None:
            found = (cause, index)
    return found


def dark_in(chip, state):
    """The ascending tuple of the isles that are dark in a state."""
    return dark_isles(chip, [name for name, isle in zip(chip.names, state[0]) if isle[4]])


def shut_in(chip, state):
    """The ascending tuple of the isles that are shut in a state."""
    return tuple([name for name, isle in zip(chip.names, state[0]) if isle[3]])


def held_on(chip, name, state):
    """The held marks of the wire with this name in a state, a tuple."""
    begin = sum([_count_holding(chip.wire(other)) for other in chip.wires if other < name])
    return state[1][begin:begin + _count_holding(chip.wire(name))]


def first_mark(chip, driver, state, dark):
    """The mark behind a driver in a state in which these isles are dark."""
    if driver == "shore":
        return "clean"
    kept, plain = state[0][chip.names.index(driver)][5:7]
    if driver in dark or kept == "dust" or plain == "dust":
        return "dust"
    return "older" if kept == "older" else "clean"


def _count_holding(wire):
    """How many holding clamps a wire has."""
    return len([station for station in wire.stations if isinstance(station, Holding)])


def _held_marks(wire, held):
    """The list of the held marks by stations, "open" for stations that hold nothing."""
    marks = []
    ahead = 0
    for station in wire.stations:
        holds = isinstance(station, Holding) and ahead < len(held)
        marks.append(held[ahead] if holds else "open")
        ahead += 1 if holds else 0
    return marks


def _cause(station, dark, shut):
    """The word for what makes the mark behind a station, or None if it hands on what comes."""
    if station.on in dark:
        return "place"
    if dusty(station.line, dark):
        return "line"
    if station.owner in shut:
        return "held" if isinstance(station, Holding) else "gives"
    return None
