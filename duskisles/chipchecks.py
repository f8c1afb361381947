"""What may be a chip: the faults that isles, wires and a shore have together, in the order in which they are told."""

from duskisles.errors import InvalidChip
from duskisles.isles import Isle
from duskisles.names import is_integer
from duskisles.wires import Wire

MOST_ISLES = 8
MOST_WIRES = 24
MOST_SHORE = 3


def check_chip(isles, wires, shore):
    """Raises InvalidChip for the first fault of any values, if they have one; isles are a tuple."""
    if not 1 <= len(isles) <= MOST_ISLES or not all([isinstance(isle, Isle) for isle in isles]):
        raise InvalidChip("isles", None)
    _check_twins("isles", isles)
    if not isinstance(wires, tuple) or len(wires) > MOST_WIRES or not all([isinstance(wire, Wire) for wire in wires]):
        raise InvalidChip("wires", None)
    _check_twins("wires", wires)
    if not is_integer(shore) or not 1 <= shore <= MOST_SHORE:
        raise InvalidChip("shore", None)
    names = [isle.name for isle in isles]
    _check_isles(_by_name(isles), names)
    _check_wires(_by_name(wires), names)


def _by_name(things):
    """The isles or wires by ascending names."""
    return sorted(things, key=lambda thing: thing.name)


def _check_twins(part, things):
    """Raises InvalidChip for the first thing whose name an earlier one has."""
    names = [thing.name for thing in things]
    for index, name in enumerate(names):
        if name in names[:index]:
            raise InvalidChip(part, name)


def _check_isles(isles, names):
    """Raises InvalidChip for the first isle whose leash, then for the first one whose needs name no isle."""
    for isle in isles:
        if not _are_known(isle.leash, names):
            raise InvalidChip("leash", isle.name)
    for isle in isles:
        if not _are_known(isle.needs, names):
            raise InvalidChip("needs", isle.name)


def _check_wires(wires, names):
    """Raises InvalidChip for the first wire with a part that names no isle."""
    for wire in wires:
        part = _strange_part(wire, names)
        if part is not None:
            raise InvalidChip(part, wire.name)


def _strange_part(wire, names):
    """The first part of a wire that names no isle, or None."""
    if wire.driver not in [*names, "shore"]:
        return "driver"
    if wire.reader not in [*names, "shore"]:
        return "reader"
    if not _are_known(wire.places(), names):
        return "on"
    if not _are_known(wire.owners(), names):
        return "owner"
    if not _are_known(wire.lines(), names):
        return "line"
    return None


def _are_known(some, names):
    """Whether all these are among the names."""
    return all([name in names for name in some])
