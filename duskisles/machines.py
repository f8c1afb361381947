"""Machines: the still chip and the dusk chip, played with a logic."""

from duskisles.errors import InvalidEvent, NoIsle
from duskisles.logics import Counting
from duskisles.moves import is_event
from duskisles.plays import first_play


class Machine:
    """A chip with registers. Only the two kinds below have objects."""

    def __init__(self):
        raise TypeError("a machine is a Still or a Dusk")

    @property
    def chip(self):
        """The chip."""
        return self._chip

    @property
    def moment(self):
        """The number of events that were done."""
        return self._now.count

    @property
    def state(self):
        """The state."""
        return self._now.now

    @property
    def ticking(self):
        """The ascending tuple of the isles that are ticking."""
        return self._now.ticking_names()

    def registers(self, name):
        """The registers of an isle or the shore."""
        return self._now.cells[_place(self._chip, name)]

    def taken(self, name):
        """A new dict with the values of the wires that lead to an isle or the shore."""
        return self._now.taken_by(_place(self._chip, name))

    def do(self, *events):
        """Does the events, all or none; returns the moment."""
        self._now = _behind(self._chip, self._now, events)
        return self._now.count


class Still(Machine):
    """The chip in which nothing is ever dark."""

    def __init__(self, chip, logic=None, *, start=None):
        self._chip = chip
        self._now = first_play(chip, Counting() if logic is None else logic, start, None)

    @property
    def chip(self):
        """The chip."""
        return self._chip

    @property
    def moment(self):
        """The number of events that were done."""
        return self._now.count

    @property
    def state(self):
        """The state, as in the dusk chip."""
        return self._now.now

    @property
    def ticking(self):
        """The ascending tuple of the isles whose clock is on."""
        return self._now.ticking_names()

    def registers(self, name):
        """The registers of an isle or the shore."""
        return self._now.cells[_place(self._chip, name)]

    def taken(self, name):
        """A new dict with the values of the wires that lead to an isle or the shore."""
        return self._now.taken_by(_place(self._chip, name))

    def do(self, *events):
        """Does the events, all or none; returns the moment."""
        self._now = _behind(self._chip, self._now, events)
        return self._now.count


class Dusk(Machine):
    """The chip in which isles go dark."""

    def __init__(self, chip, logic=None, *, start=None, dust=None):
        self._chip = chip
        self._now = first_play(chip, Counting() if logic is None else logic, start,
                               _minus_one if dust is None else dust)

    @property
    def chip(self):
        """The chip."""
        return self._chip

    @property
    def moment(self):
        """The number of events that were done."""
        return self._now.count

    @property
    def state(self):
        """The state, as in the still chip."""
        return self._now.now

    @property
    def ticking(self):
        """The ascending tuple of the isles whose clock is on and that are not dark."""
        return self._now.ticking_names()

    def registers(self, name):
        """The registers of an isle or the shore."""
        return self._now.cells[_place(self._chip, name)]

    def taken(self, name):
        """A new dict with the values of the wires that lead to an isle or the shore."""
        return self._now.taken_by(_place(self._chip, name))

    def shadow(self, name):
        """The shadow of an isle; that of the shore is ()."""
        return self._now.shadows[_place(self._chip, name)]

    def do(self, *events):
        """Does the events, all or none; returns the moment."""
        self._now = _behind(self._chip, self._now, events)
        return self._now.count


def parted(chip, events, *, logic=None, start=None, dust=None):
    """(moment, what, name) of the first difference of both chips behind one of the events, or None."""
    _check_events(chip, events)
    worked = Counting() if logic is None else logic
    still = first_play(chip, worked, start, None)
    dusk = first_play(chip, worked, start, _minus_one if dust is None else dust)
    for index, event in enumerate(events):
        still = still.behind(index, event)
        dusk = dusk.behind(index, event)
        found = _difference(chip, still, dusk)
        if found is not None:
            return (index + 1, *found)
    return None


def _minus_one(kind, name, index, moment):
    """The dust if none is given."""
    return -1


def _place(chip, name):
    """The name of an isle or the shore; raises NoIsle for any other value."""
    if name != "shore" and name not in chip:
        raise NoIsle(name)
    return name


def _check_events(chip, events):
    """Raises InvalidEvent for the first value that is not an event."""
    for index, event in enumerate(events):
        if not is_event(chip, event):
            raise InvalidEvent(index)


def _behind(chip, play, events):
    """The play behind these events."""
    _check_events(chip, events)
    for index, event in enumerate(events):
        play = play.behind(index, event)
    return play


def _difference(chip, still, dusk):
    """The first difference of two plays, a pair (what, name), or None."""
    ticking = [still.ticking_names(), dusk.ticking_names()]
    for name in chip.names:
        if (name in ticking[0]) != (name in ticking[1]):
            return ("ticking", name)
    places = [*ticking[0], "shore"]
    for name in places:
        if still.cells[name] != dusk.cells[name]:
            return ("registers", name)
    for track in chip.plan().tracks:
        count = len(track.stops)
        if track.to_place in places and still.brought(track, count) != dusk.brought(track, count):
            return ("wire", track.wire_name)
    return None
