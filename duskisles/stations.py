"""Stations: passes, clamps and holding clamps, which stand on wires."""

from duskisles.errors import InvalidStation
from duskisles.names import is_integer, is_lead, is_name, is_own_name


class Station:
    """What stands on a wire. Only the kinds below have objects; each says all there is to say of it itself."""

    def __init__(self):
        raise TypeError("a station is a Pass, a Clamp or a Holding")

    @property
    def on(self):
        """The place on which it stands."""
        return self._on

    @property
    def owner(self):
        """The isle for which it shuts, or None."""
        return None

    @property
    def gives(self):
        """The bit that it gives when it is shut, or None."""
        return None

    @property
    def line(self):
        """The lead of its control line."""
        return ()

    def handed(self, mark, *, dark, dusty, shut, held):
        """The mark behind the station if this one comes."""
        raise NotImplementedError("each kind of station tells what it hands on")

    def propped(self, *, on=False, line=()):
        """A station like it with spots of it exchanged for the shore."""
        raise NotImplementedError("each kind of station tells how it is propped")

    def __eq__(self, other):
        return (isinstance(other, Station) and self.on == other.on and self.owner == other.owner
                and self.gives == other.gives and self.line == other.line)


class Pass(Station):
    """A station that hands on what comes."""

    def __init__(self, on):
        if not is_name(on):
            raise InvalidStation("on")
        self._on = on

    @property
    def on(self):
        """The place on which it stands."""
        return self._on

    @property
    def owner(self):
        """None: nobody shuts a pass."""
        return None

    @property
    def gives(self):
        """None: a pass has no bit of its own."""
        return None

    @property
    def line(self):
        """(): no line leads to a pass."""
        return ()

    def handed(self, mark, *, dark, dusty, shut, held):
        """The mark behind the pass; only the darkness of its place concerns it."""
        return "dust" if dark else mark

    def propped(self, *, on=False, line=()):
        """A pass like it, on the shore if `on` is True."""
        return Pass(_place(self._on, on))

    def __eq__(self, other):
        return isinstance(other, Pass) and self._on == other._on


class Clamp(Station):
    """A station that gives its bit while its owner is shut."""

    def __init__(self, on, owner, *, gives=0, line=()):
        wrong = _wrong_part(on, owner, gives, line)
        if wrong is not None:
            raise InvalidStation(wrong)
        self._on = on
        self._owner = owner
        self._gives = gives
        self._line = line

    @property
    def on(self):
        """The place on which it stands."""
        return self._on

    @property
    def owner(self):
        """The isle for which it shuts."""
        return self._owner

    @property
    def gives(self):
        """The bit that it gives while its owner is shut."""
        return self._gives

    @property
    def line(self):
        """The lead of its control line."""
        return self._line

    def handed(self, mark, *, dark, dusty, shut, held):
        """The mark behind the clamp; what is held does not concern it."""
        if dark or dusty:
            return "dust"
        return "clean" if shut else mark

    def propped(self, *, on=False, line=()):
        """A clamp like it, on the shore if `on` is True, without the isles of its line with these indexes."""
        return Clamp(_place(self._on, on), self._owner, gives=self._gives, line=_left(self._line, line))

    def __eq__(self, other):
        # The bit of a holding clamp is None, so it is not equal to a clamp with the same parts.
        return (isinstance(other, Clamp) and self._on == other._on and self._owner == other._owner
                and self._gives == other._gives and self._line == other._line)


class Holding(Clamp):
    """A clamp that gives what came when its owner became shut."""

    def __init__(self, on, owner, *, line=()):
        wrong = _wrong_part(on, owner, 0, line)
        if wrong is not None:
            raise InvalidStation(wrong)
        self._on = on
        self._owner = owner
        self._gives = None
        self._line = line

    @property
    def on(self):
        """The place on which it stands."""
        return self._on

    @property
    def owner(self):
        """The isle for which it shuts."""
        return self._owner

    @property
    def gives(self):
        """None: it has no bit of its own."""
        return None

    @property
    def line(self):
        """The lead of its control line."""
        return self._line

    def handed(self, mark, *, dark, dusty, shut, held):
        """The mark behind the holding clamp."""
        if dark or dusty:
            return "dust"
        return held if shut else mark

    def propped(self, *, on=False, line=()):
        """A holding clamp like it, on the shore if `on` is True, without the isles of its line with these indexes."""
        return Holding(_place(self._on, on), self._owner, line=_left(self._line, line))

    def __eq__(self, other):
        return (isinstance(other, Holding) and self._on == other._on and self._owner == other._owner
                and self._line == other._line)


def _wrong_part(on, owner, gives, line):
    """The first part that a clamp cannot have like this, or None."""
    if not is_name(on):
        return "on"
    if not is_own_name(owner):
        return "owner"
    if not is_integer(gives) or not 0 <= gives <= 1:
        return "gives"
    if not is_lead(line):
        return "line"
    return None


def _place(place, propped):
    """The place, or the shore if it is propped."""
    return "shore" if propped else place


def _left(line, gone):
    """The lead without the isles with these indexes."""
    return tuple([name for index, name in enumerate(line) if index not in gone])
