"""Tracks: wires as walks need them, with isles as bits of integers. The shore is no bit."""

from duskisles.stations import Holding

# Marks as numbers, ascending as their words do. All held marks of a wire are one number, 2 bits for each.
MARK_WORDS = ("clean", "dust", "older", "open")
MARK_AT = {"clean": 0, "dust": 1, "older": 2, "open": 3}


class Track:
    """A wire of a chip from its driver to its reader, two places. Its stops are tuples (station, place, owner, line,
    holds) with bits in the place of isles; `first_held` tells where its held marks begin among those of a state."""

    def __init__(self, wire_name, ends, stops, first_held):
        self.wire_name = wire_name
        self.from_place, self.to_place = ends
        self.stops = stops
        self.holders = len([stop for stop in stops if stop[4]])
        self.first_held = first_held

    def power_steps(self):
        """The list of (isles whose dark makes dust here, owner, place of the held mark or None) for the stations."""
        steps = []
        shift = 2 * self.holders
        for _, place, owner, line, holds in self.stops:
            shift -= 2 if holds else 0
            steps.append((place | line, owner, shift if holds else None))
        return steps

    def owner_bits(self):
        """The owners of the clamps."""
        bits = 0
        for stop in self.stops:
            bits = bits | stop[2]
        return bits

    def power_bits(self):
        """The isles on which stations are, and those of the lines."""
        bits = 0
        for _, place, _, line, _ in self.stops:
            bits = bits | place | line
        return bits

    def held_in(self, held):
        """The held marks of this wire among those of a state."""
        return held[self.first_held:self.first_held + self.holders]

    def end_mark(self, mark, dark, shut, held):
        """The mark at the end if this one is behind the driver; isles that are dark or shut are bits."""
        ahead = 0
        for station, place, owner, line, holds in self.stops:
            mark = station.handed(mark, dark=dark & place > 0, dusty=dark & line > 0, shut=shut & owner > 0,
                                  held=held[ahead] if holds else None)
            if holds:
                ahead += 1
        return mark

    def held_behind(self, mark, dark, shut, became, held):
        """The list of the held marks behind an event by which the isles `became` became shut."""
        marks = []
        ahead = 0
        for station, place, owner, line, holds in self.stops:
            holding = None
            if holds:
                holding = held_mark(held[ahead], mark, dark & (place | line), shut & owner, became & owner)
                marks.append(holding)
                ahead += 1
            mark = station.handed(mark, dark=dark & place > 0, dusty=dark & line > 0, shut=shut & owner > 0,
                                  held=holding)
        return marks


def end_number(steps, mark, dark, shut, held):
    """The number of the mark at the end of the steps of a track if this one comes."""
    for power, owner, shift in steps:
        if dark & power:
            mark = 1
        elif shut & owner:
            mark = 0 if shift is None else held >> shift & 3
    return mark


def numbers_behind(steps, mark, dark, shut, became, held):
    """(held marks, mark at the end) as numbers, of the steps of a track behind an event by which the isles `became`
    became shut, if this mark comes behind it."""
    found = 0
    for power, owner, shift in steps:
        holding = 0
        if shift is not None:
            holding = held >> shift & 3
            if not shut & owner:
                holding = 3
            elif dark & power:
                holding = 1
            elif became & owner:
                holding = mark
            found = found | holding << shift
        if dark & power:
            mark = 1
        elif shut & owner:
            mark = holding
    return found, mark


def held_mark(old, coming, dusty, shut, became):
    """What a holding clamp holds behind an event, if it held `old` and the walk brings `coming` up to it."""
    if not shut:
        return "open"
    if dusty:
        return "dust"
    return coming if became else old


def begin_mark(kept, plain, dark):
    """The mark behind a driver with these marks."""
    if dark or kept == "dust" or plain == "dust":
        return "dust"
    return "older" if kept == "older" else "clean"


def mask_of(names, bits):
    """The bits of these isles."""
    mask = 0
    for name in names:
        mask = mask | bits[name]
    return mask


def track_of(wire, bits, first_held):
    """The track of a wire. `bits` has the bit of each isle, and 0 for the shore."""
    stops = tuple([_stop(station, bits) for station in wire.stations])
    return Track(wire.name, (wire.driver, wire.reader), stops, first_held)


def _stop(station, bits):
    """A station with the bits of its place, its owner and its line, and whether it holds."""
    owner = 0 if station.owner is None else bits[station.owner]
    return (station, bits[station.on], owner, mask_of(station.line, bits), isinstance(station, Holding))
