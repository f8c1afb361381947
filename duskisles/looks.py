"""Looks: what is read of an isle, and the stands, groups and next stands that come of it."""

from duskisles.posts import FIRST_OWN, behind_event, keeper_options

# The phases that are told apart where the phase is read; the others are one.
ENDS = ("up", "asleep")
READ_WORDS = ("phase", "clock", "shut", "away")


class Look:
    """How much is read of an isle: `read_flags` has True or False for the phase and each of the three flags. `whole`
    isles have no silent events, `awake` ones no events at all."""

    def __init__(self, isle, read_flags, *, whole=False, awake=False):
        self.of_isle = isle
        self.read_flags = read_flags
        self.whole = whole
        self.awake = awake
        self.groups = {}

    def words(self):
        """The tuple of the words for what is read."""
        return tuple([word for word, is_read in zip(READ_WORDS, self.read_flags) if is_read])

    def first_stand_of(self):
        """The stand of the beginning."""
        return self._seen(FIRST_OWN)

    def moves(self, stand):
        """The list of the pairs (event, what is behind it) for the events of the keeper, whatever is behind them."""
        if self.awake:
            return []
        return [(event, self._seen(behind_event(self.of_isle, stand, event)))
                for event in keeper_options(self.of_isle, stand)]

    def is_silent(self, stand, other):
        """Whether an event that leads from the one to the other is silent."""
        if self.whole or stand[2:] != other[2:]:
            return False
        return not self.read_flags[0] or (stand[0] not in ENDS and other[0] not in ENDS)

    def group_of(self, stand):
        """The ascending tuple of the members of the group of a stand."""
        if stand not in self.groups:
            met = [stand]
            ahead = [stand]
            while ahead:
                member = ahead.pop()
                fresh = [other for _, other in self.moves(member) if self.is_silent(member, other) and other not in met]
                met.extend(fresh)
                ahead.extend(fresh)
            self.groups[stand] = tuple(sorted(set(met)))
        return self.groups[stand]

    def loud_moves(self, stand):
        """The list of the pairs (event, next stand) for the events that are not silent from the group of a stand."""
        return [(event, other) for member in self.group_of(stand) for event, other in self.moves(member)
                if not self.is_silent(member, other)]

    def onward(self, stand):
        """The ascending tuple of the next stands."""
        return tuple(sorted({other for _, other in self.loud_moves(stand)}))

    def every(self):
        """The list of all stands: the first one, and behind each those of its next ones that were not told yet."""
        met = [self.first_stand_of()]
        told = 0
        while told < len(met):
            fresh = [other for other in self.onward(met[told]) if other not in met]
            met.extend(fresh)
            told += 1
        return met

    def label_of(self, stand):
        """The label of a stand."""
        phase = None
        if self.read_flags[0]:
            phase = stand[0] if stand[0] in ENDS else "between"
        return (phase, *stand[2:])

    def _seen(self, own):
        """An own state with None for the flags that are not read."""
        return (own[0], own[1], *[flag if is_read else None for flag, is_read in zip(own[2:], self.read_flags[1:])])
