"""Which isles never sleep and why, and which can be asleep together."""

from duskisles.errors import CannotSleep
from duskisles.links import check_isles, needed, needing
from duskisles.names import is_integer
from duskisles.paths import least_path


def sleepless(chip):
    """The ascending tuple of the sleepless isles."""
    plan = chip.plan()
    return plan.names_in(plan.sleepless_mask)


def reasons(chip):
    """A dict that has for each isle the first reason why it can sleep or not."""
    awake = sleepless(chip)
    return {name: _reason(chip, name, awake) for name in chip.names}


def lets_reasons(chip, thing):
    """Whether any value is a dict with a right reason for each isle."""
    if not isinstance(thing, dict) or len(thing) != len(chip):
        return False
    if not all([name in thing for name in chip.names]):
        return False
    return all([_is_reason(chip, name, thing) for name in chip.names])


class Sleepers:
    """A set of isles that can be asleep together, and no others with them. It never changes."""

    def __init__(self, chip, *names):
        check_isles(chip, names)
        awake = sleepless(chip)
        for name in sorted(names):
            if name in awake or not all([other in names for other in needing(chip)[name]]):
                raise CannotSleep(name)
        self._chip = chip
        self._names = tuple(sorted(set(names)))

    @classmethod
    def of(cls, chip, names):
        """The sleepers with the names of a list or tuple."""
        return cls(chip, *names)

    @classmethod
    def every(cls, chip):
        """The list of all sleepers of a chip, ascending by their names."""
        rows = [()]
        for name in cls.widest(chip).names:
            rows = [*rows, *[(*row, name) for row in rows]]
        links = needing(chip)
        return [Sleepers(chip, *row) for row in sorted(rows) if _is_closed(row, links)]

    @classmethod
    def widest(cls, chip):
        """The sleepers with all isles that are not sleepless."""
        awake = sleepless(chip)
        names = [name for name in chip.names if name not in awake]
        return cls(chip, *names)

    @property
    def chip(self):
        """The chip."""
        return self._chip

    @property
    def names(self):
        """The ascending names of the isles."""
        return self._names

    def joined(self, other):
        """The sleepers with the isles of one of both."""
        names = [*self._names, *other._names]
        return Sleepers(self._chip, *names)

    def common(self, other):
        """The sleepers with the isles of both."""
        names = [name for name in self._names if name in other._names]
        return Sleepers(self._chip, *names)

    def within(self, other):
        """Whether each isle of these is one of the other."""
        return all([name in other._names for name in self._names])

    def order(self):
        """The least tuple of the isles in which each stands behind those that need it."""
        links = needing(self._chip)
        placed = []
        while len(placed) < len(self._names):
            left = [name for name in self._names if name not in placed]
            free = [name for name in left if all([other in placed for other in links[name]])]
            placed.append(free[0])
        return tuple(placed)

    def deeds(self):
        """The list of the events by which they are put to sleep from the first state, in this order."""
        return [("deed", name) for name in self.order() for _ in self._chip[name].sleep]

    def __contains__(self, name):
        return name in self._names

    def __len__(self):
        return len(self._names)

    def __eq__(self, other):
        return isinstance(other, Sleepers) and self._chip == other._chip and self._names == other._names


def _is_closed(names, links):
    """Whether all isles that need one of these are among them."""
    return all([other in names for name in names for other in links[name]])


def _ring(chip, name):
    """The shortest ring of needs that begins with this isle, of several the least, or None."""
    return least_path(name, needing(chip)[name], needed(chip))


def _reason(chip, name, awake):
    """The first reason of an isle, if these are sleepless."""
    if not chip[name].sleeps:
        return ("rests",)
    ring = _ring(chip, name)
    if ring is not None:
        return ("ring", ring)
    links = needing(chip)
    for other in links[name]:
        if other in awake:
            return ("needed", other)
    return ("rank", _rank(name, links))


def _rank(name, links):
    """How many isles stand above an isle on the longest way of isles that need one another."""
    return max([_rank(other, links) + 1 for other in links[name]], default=0)


def _is_reason(chip, name, thing):
    """Whether a dict that has a value for each isle has a right reason for this one."""
    reason = thing[name]
    if not isinstance(reason, tuple) or len(reason) == 0:
        return False
    if reason[0] == "rests":
        return len(reason) == 1 and not chip[name].sleeps
    if len(reason) != 2:
        return False
    above = needing(chip)[name]
    if reason[0] == "ring":
        return _is_ring(chip, name, reason[1])
    if reason[0] == "needed":
        return reason[1] in above and not _is_rank(thing[reason[1]])
    if not _is_rank(reason) or not chip[name].sleeps:
        return False
    return all([_is_rank(thing[other]) and thing[other][1] < reason[1] for other in above])


def _is_rank(reason):
    """Whether any value is a reason that tells a rank."""
    if not isinstance(reason, tuple) or len(reason) != 2:
        return False
    return reason[0] == "rank" and is_integer(reason[1]) and reason[1] >= 0


def _is_ring(chip, name, ring):
    """Whether any value is a tuple of different isles that begins with this one and in which each needs the next."""
    if not isinstance(ring, tuple) or not 1 <= len(ring) <= len(chip):
        return False
    if ring[0] != name or not all([other in chip for other in ring]) or len(set(ring)) != len(ring):
        return False
    return all([other in chip[one].needs for one, other in zip(ring, [*ring[1:], name])])
