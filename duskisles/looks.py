"""Looks: what is read of an isle, and the stands, groups and next stands that come of it."""

from duskisles.posts import FIRST_OWN, behind_event, keeper_options, next_word

# The phases that are told apart where the phase is read; the others are one.
ENDS = ("up", "asleep")
READ_WORDS = ("phase", "clock", "shut", "away")


class Look:
    """How much is read of an isle: `read_flags` has True or False for the phase and each of the three flags. `whole`
    isles have no silent events, `awake` ones no events at all."""

    def __init__(self, isle, read_flags, *, whole, awake):
        self.of_isle = isle
        self.read_flags = read_flags
        self.whole = whole
        self.awake = awake
        # What was found already, as groups are asked for again and again.
        self.found_groups = {}
        self.found_steps = {}

    def words(self):
        """The tuple of the words for what is read."""
        return tuple([word for word, is_read in zip(READ_WORDS, self.read_flags) if is_read])

    def first_stand_of(self):
        """The stand of the beginning."""
        return self._seen(FIRST_OWN)

    def group_of(self, stand):
        """The ascending tuple of the members of the group of a stand."""
        if stand not in self.found_groups:
            self.found_groups[stand] = tuple(sorted(list(self._ways(stand))))
        return self.found_groups[stand]

    def steps_from(self, stand):
        """The ascending tuple of the pairs (next stand, word), word being that of the deed of a whole isle, if one is
        done, or None."""
        if stand not in self.found_steps:
            loud = [(other, self._word(event, stand)) for member in self.group_of(stand)
                    for event, other in self._moves(member) if not self._is_silent(member, other)]
            words = {other: word for other, word in loud}
            self.found_steps[stand] = tuple([(other, words[other]) for other in sorted(list(words))])
        return self.found_steps[stand]

    def onward(self, stand):
        """The ascending tuple of the next stands."""
        return tuple([other for other, _ in self.steps_from(stand)])

    def every_stand(self):
        """The list of all stands: the first one, and behind each those of its next ones that were not told yet."""
        met = [self.first_stand_of()]
        told = 0
        while told < len(met):
            fresh = [other for other in self.onward(met[told]) if other not in met]
            met.extend(fresh)
            told += 1
        return met

    def events_to(self, stand, other):
        """The list of silent events, and at its end one that is not silent, that lead from a stand to a next one."""
        ways = self._ways(stand)
        for member in ways:
            for event, behind in self._moves(member):
                if behind == other and not self._is_silent(member, behind):
                    return [*ways[member], event]
        return []

    def label_of(self, stand):
        """The label of a stand."""
        phase = None
        if self.read_flags[0]:
            phase = stand[0] if stand[0] in ENDS else "between"
        return (phase, *stand[2:])

    def _ways(self, stand):
        """A dict from each member of the group of a stand to the list of the silent events that lead there."""
        ways = {stand: []}
        ahead = [stand]
        while ahead:
            member = ahead.pop()
            for event, other in self._moves(member):
                if other not in ways and self._is_silent(member, other):
                    ways[other] = [*ways[member], event]
                    ahead.append(other)
        return ways

    def _moves(self, stand):
        """The list of the pairs (event, what is behind it) for the events of the keeper, as if it were alone."""
        if self.awake:
            return []
        return [(event, self._seen(behind_event(self.of_isle, stand, event)))
                for event in keeper_options(self.of_isle, stand)]

    def _is_silent(self, stand, other):
        """Whether an event that leads from the one to the other is silent."""
        if self.whole or stand[2:] != other[2:]:
            return False
        return not self.read_flags[0] or (stand[0] not in ENDS and other[0] not in ENDS)

    def _word(self, event, stand):
        """The word of an event of a whole isle, or None."""
        return next_word(self.of_isle, stand) if self.whole and event[0] == "deed" else None

    def _seen(self, own):
        """An own state with None for the flags that are not read."""
        flags = [flag if is_read else None for flag, is_read in zip(own[2:], self.read_flags[1:])]
        return (own[0], own[1], *flags)
