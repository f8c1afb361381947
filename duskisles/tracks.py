"""Tracks: wires as walks need them, with isles as bits of integers. The shore is no bit."""

from duskisles.stations import Holding


class Track:
    """A wire of a chip. `bits` has the bit of each isle, and 0 for the shore; `first_held` tells where its held marks
    begin among those of a state."""

    def __init__(self, wire, bits, first_held):
        self.wire_name = wire.name
        self.from_place = wire.driver
        self.to_place = wire.reader
        self.stops = tuple([_stop(station, bits) for station in wire.stations])
        self.holders = len([stop for stop in self.stops if stop[4]])
        self.first_held = first_held

    def held_in(self, held):
        """The held marks of this wire among those of a state."""
        return held[self.first_held:self.first_held + self.holders]

    def end_mark(self, mark, dark, shut, held):
        """The mark at the end if this one is behind the driver; isles that are dark or shut are bits."""
        ahead = 0
        for station, place, owner, line, holds in self.stops:
            mark = station.handed(mark, dark=dark & place > 0, dusty=dark & line > 0, shut=shut & owner > 0,
                                  held=held[ahead] if holds else None)
            if holds:
                ahead += 1
        return mark

    def held_behind(self, mark, dark, shut, became, held):
        """The list of the held marks behind an event by which the isles `became` became shut."""
        marks = []
        ahead = 0
        for station, place, owner, line, holds in self.stops:
            holding = None
            if holds:
                holding = held_mark(held[ahead], mark, dark & (place | line), shut & owner, became & owner)
                marks.append(holding)
                ahead += 1
            mark = station.handed(mark, dark=dark & place > 0, dusty=dark & line > 0, shut=shut & owner > 0,
                                  held=holding)
        return marks


def held_mark(old, coming, dusty, shut, became):
    """What a holding clamp holds behind an event, if it held `old` and the walk brings `coming` up to it."""
    if not shut:
        return "open"
    if dusty:
        return "dust"
    return coming if became else old


def begin_mark(kept, plain, dark):
    """The mark behind a driver with these marks."""
    if dark or kept == "dust" or plain == "dust":
        return "dust"
    return "older" if kept == "older" else "clean"


def mask_of(names, bits):
    """The bits of these isles."""
    mask = 0
    for name in names:
        mask = mask | bits[name]
    return mask


def _stop(station, bits):
    """A station with the bits of its place, its owner and its line, and whether it holds."""
    owner = 0 if station.owner is None else bits[station.owner]
    return (station, bits[station.on], owner, mask_of(station.line, bits), isinstance(station, Holding))
