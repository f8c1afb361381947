"""Isles: what can be switched off."""

from duskisles.errors import InvalidIsle, InvalidName, NoPart
from duskisles.names import is_integer, is_lead, is_name_row, is_own_name, is_words

MOST_REGISTERS = 3
MOST_NEEDS = 7
MOST_TURNS = 6


class Isle:
    """An isle with its registers, its leash, its needs, its two rows of deeds and its turns. It never changes."""

    SLEEP = ("still", "shut", "save", "dark")
    WAKE = ("lit", "reset", "back", "open", "go")

    def __init__(self, name, *, kept=1, plain=1, leash=(), needs=(), sleeps=True,
                 sleep=("still", "shut", "save", "dark"), wake=("lit", "reset", "back", "open", "go"), turns=()):
        if not is_own_name(name):
            raise InvalidName(name)
        parts = {"name": name, "kept": kept, "plain": plain, "leash": leash, "needs": needs, "sleeps": sleeps,
                 "sleep": sleep, "wake": wake, "turns": turns}
        wrong = _wrong_part(parts)
        if wrong is not None:
            raise InvalidIsle(name, wrong)
        parts["needs"] = tuple(sorted(list(needs)))
        self._parts = parts

    @property
    def name(self):
        """The name."""
        return self._parts["name"]

    @property
    def kept(self):
        """The number of kept registers."""
        return self._parts["kept"]

    @property
    def plain(self):
        """The number of plain registers."""
        return self._parts["plain"]

    @property
    def size(self):
        """The number of all registers."""
        return self._parts["kept"] + self._parts["plain"]

    @property
    def leash(self):
        """The lead over which its own lines run."""
        return self._parts["leash"]

    @property
    def needs(self):
        """The ascending names of the isles that it needs."""
        return self._parts["needs"]

    @property
    def sleeps(self):
        """Whether it ever sleeps."""
        return self._parts["sleeps"]

    @property
    def sleep(self):
        """The row of deeds by which it goes to sleep."""
        return self._parts["sleep"]

    @property
    def wake(self):
        """The row of deeds by which it wakes."""
        return self._parts["wake"]

    @property
    def turns(self):
        """The turns from one row into the other."""
        return self._parts["turns"]

    def changed(self, **parts):
        """A new isle that has these parts in the place of its own."""
        strange = [name for name in sorted(list(parts)) if name not in self._parts]
        if strange:
            raise NoPart(strange[0])
        given = {**self._parts, **parts}
        return Isle(**given)

    def __eq__(self, other):
        return isinstance(other, Isle) and self._parts == other._parts

    def __repr__(self):
        return f"Isle({self._parts['name']})"


def _wrong_part(parts):
    """The first part that an isle cannot have like this, or None."""
    if not _is_amount(parts["kept"]):
        return "kept"
    if not _is_amount(parts["plain"]):
        return "plain"
    if parts["kept"] + parts["plain"] == 0:
        return "registers"
    # What is the default, as most parts are, is not looked at more closely.
    if parts["leash"] != () and (not is_lead(parts["leash"]) or parts["name"] in parts["leash"]):
        return "leash"
    if parts["needs"] != () and (not is_name_row(parts["needs"], MOST_NEEDS) or parts["name"] in parts["needs"]):
        return "needs"
    if not isinstance(parts["sleeps"], bool):
        return "sleeps"
    if parts["sleep"] != Isle.SLEEP and not is_words(parts["sleep"], Isle.SLEEP):
        return "sleep"
    if parts["wake"] != Isle.WAKE and not is_words(parts["wake"], Isle.WAKE):
        return "wake"
    if parts["turns"] != () and not _are_turns(parts["turns"], parts["sleep"], parts["wake"]):
        return "turns"
    return None


def _is_amount(value):
    """Whether any value is a number of registers."""
    return is_integer(value) and 0 <= value <= MOST_REGISTERS


def _are_turns(value, sleep, wake):
    """Whether any value is a tuple of different turns between these two rows."""
    if not isinstance(value, tuple) or len(value) > MOST_TURNS:
        return False
    return all([_is_turn(turn, sleep, wake) for turn in value]) and len(set(value)) == len(value)


def _is_turn(value, sleep, wake):
    """Whether any value is a turn between these two rows."""
    if not isinstance(value, tuple) or len(value) != 3:
        return False
    row, begin, end = value
    if not is_integer(begin) or not is_integer(end):
        return False
    if row == "sleep":
        return 1 <= begin < len(sleep) and 0 <= end < len(wake)
    if row == "wake":
        return 1 <= begin < len(wake) and 0 <= end < len(sleep)
    return False
