"""Chips: isles, the wires between them, and the shore."""

from duskisles.chipchecks import check_chip
from duskisles.chipreading import read_parts
from duskisles.chipwriting import chip_lines
from duskisles.errors import InvalidChip, InvalidName, NoIsle, NoWire
from duskisles.isles import Isle
from duskisles.names import is_name, is_own_name
from duskisles.plans import plan_of
from duskisles.stations import Clamp, Holding, Pass
from duskisles.wires import Wire


class Chip:
    """A chip with its isles, its wires and the number of registers of its shore. It never changes."""

    def __init__(self, *isles, wires=(), shore=1):
        check_chip(isles, wires, shore)
        self._names = tuple(sorted([isle.name for isle in isles]))
        self._wire_names = tuple(sorted([wire.name for wire in wires]))
        self._isles = {isle.name: isle for isle in isles}
        self._wires = {wire.name: wire for wire in wires}
        self._shore = shore
        # As soon as it was asked for, the plan of its isles and wires.
        self._plans = []
        self._questions = (*[("isle", name) for name in self._names], *[("wire", name) for name in self._wire_names])

    @classmethod
    def of(cls, isles, wires=(), shore=1):
        """The chip with the isles and wires of two lists or tuples."""
        # What is neither becomes one wrong value, so that the errors and their order are those of the class.
        isle_row = tuple(isles) if isinstance(isles, (list, tuple)) else (None,)
        wire_row = tuple(wires) if isinstance(wires, (list, tuple)) else None
        return cls(*isle_row, wires=wire_row, shore=shore)

    @classmethod
    def read(cls, text):
        """The chip of a text."""
        isles, wires, shore = read_parts(text)
        return cls.of(isles, wires, shore)

    @property
    def names(self):
        """The ascending names of the isles."""
        return self._names

    @property
    def wires(self):
        """The ascending names of the wires."""
        return self._wire_names

    @property
    def shore(self):
        """The number of registers of the shore."""
        return self._shore

    @property
    def questions(self):
        """All questions: those of the isles, by names, then those of the wires."""
        return self._questions

    def __getitem__(self, at):
        if at not in self:
            raise NoIsle(at)
        return self._isles[at]

    def __iter__(self):
        raise TypeError("go through the names of a chip or of its wires")

    def __contains__(self, name):
        return is_name(name) and name in self._isles

    def wire(self, name):
        """The wire with this name."""
        if not is_name(name) or name not in self._wires:
            raise NoWire(name)
        return self._wires[name]

    def plan(self):
        """The plan of its isles and wires, which is made when it is asked for first."""
        if not self._plans:
            self._plans.append(plan_of(self._isle_row(), self._wire_row()))
        return self._plans[0]

    def with_isles(self, *isles):
        """The chip in which these isles stand in the place of those of the same names, or are added."""
        given = [isle.name for isle in isles if isinstance(isle, Isle)]
        others = [self._isles[name] for name in self._names if name not in given]
        return Chip.of([*others, *isles], self._wire_row(), self._shore)

    def with_wires(self, *wires):
        """The chip in which these wires stand in the place of those of the same names, or are added."""
        given = [wire.name for wire in wires if isinstance(wire, Wire)]
        others = [self._wires[name] for name in self._wire_names if name not in given]
        return Chip.of(self._isle_row(), [*others, *wires], self._shore)

    def without_wires(self, *names):
        """The chip without the wires with these names."""
        gone = [self.wire(name).name for name in names]
        left = [self._wires[name] for name in self._wire_names if name not in gone]
        return Chip.of(self._isle_row(), left, self._shore)

    def renamed(self, names):
        """The chip in which the isles have the names that a dict gives for their own; others keep theirs."""
        for name in sorted(list(names)):
            if name not in self:
                raise NoIsle(name)
        for name in sorted(list(names)):
            if not is_own_name(names[name]):
                raise InvalidName(names[name])
        given = sorted([names.get(name, name) for name in self._names])
        for index, name in enumerate(given):
            if name in given[:index]:
                raise InvalidChip("isles", name)
        isles = [_renamed_isle(isle, names) for isle in self._isle_row()]
        wires = [_renamed_wire(wire, names) for wire in self._wire_row()]
        return Chip.of(isles, wires, self._shore)

    def _isle_row(self):
        """The list of the isles, by names."""
        return [self._isles[name] for name in self._names]

    def _wire_row(self):
        """The list of the wires, by names."""
        return [self._wires[name] for name in self._wire_names]

    def __or__(self, other):
        isles = [*self._isle_row(), *other._isle_row()]
        wires = (*self._wire_row(), *other._wire_row())
        shore = max(self._shore, other._shore)
        return Chip(*isles, wires=wires, shore=shore)

    def __len__(self):
        return len(self._names)

    def __eq__(self, other):
        return (isinstance(other, Chip) and self._isles == other._isles and self._wires == other._wires
                and self._shore == other._shore)

    def __repr__(self):
        return f"Chip({len(self._names)} isles, {len(self._wire_names)} wires)"

    def __str__(self):
        return "\n".join(chip_lines(self._shore, self._isle_row(), self._wire_row()))


def _renamed_isle(isle, names):
    """The isle with new names in the place of old ones."""
    return isle.changed(name=names.get(isle.name, isle.name), leash=_renamed_row(isle.leash, names),
                        needs=_renamed_row(isle.needs, names))


def _renamed_wire(wire, names):
    """The wire between isles with new names; its own one stays."""
    stations = [_renamed_station(station, names) for station in wire.stations]
    return Wire.of(wire.name, names.get(wire.driver, wire.driver), names.get(wire.reader, wire.reader), stations)


def _renamed_station(station, names):
    """The station with new names in the place of old ones."""
    on = names.get(station.on, station.on)
    if not isinstance(station, Clamp):
        return Pass(on)
    owner = names.get(station.owner, station.owner)
    line = _renamed_row(station.line, names)
    if isinstance(station, Holding):
        return Holding(on, owner, line=line)
    return Clamp(on, owner, gives=station.gives, line=line)


def _renamed_row(row, names):
    """The tuple of names with new ones in the place of old ones."""
    return tuple([names.get(name, name) for name in row])
