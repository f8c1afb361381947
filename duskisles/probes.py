"""Probes: whether a question is bad, found with no more rows than this takes.

Of the isles of its cone only those matter of which a flag is read, and the full one. The others are left out: an isle
that is not asleep has all up that it needs over others, so it is enough to look at needs over any number of steps. Of
rows without turns only those words matter that change what is read. And isles that neither hang together by needs with
the full one nor make marks dust do what they do whatever the rest does: of them only what can be seen matters."""

from duskisles.crews import SEEN, Crew
from duskisles.grids import Grid, first_bad
from duskisles.looks import look_on
from duskisles.rounds import Rounds
from duskisles.scopes import scope_on
from duskisles.sights import ALWAYS_BAD, Sight

FLAG_WORDS = (("still", "go"), ("shut", "open"), ("dark", "lit"))


class Probe:
    """A question of a plan. `crews` is a dict in which probes of plans on the same ground keep what they find out."""

    def __init__(self, plan, question, crews):
        self.of_plan = plan
        self.crews = crews
        self.scope = scope_on(plan, question)
        self.whole_at = self.scope.whole_at
        self.read_masks = _read_masks(plan, self.scope)
        clock, shut, away = self.read_masks
        whole = 0 if self.whole_at is None else 1 << self.whole_at
        self.asked_bits = whole | (clock | shut | away) & ~plan.sleepless_mask
        core = plan.under_masks[self.whole_at] if whole else 0
        self.holders = 0 if self.scope.track is None else self.scope.track.holders
        core = (core | shut | away if self.holders else core) & self.asked_bits
        self.core_bits = _hanging(plan, core, self.asked_bits)
        self.free_groups = self._groups(self.asked_bits & ~self.core_bits)
        self.alone = (whole > 0 and self.core_bits == whole and not self.holders
                      and not plan.isle_row[self.whole_at].turns)
        self.found_sights = {}
        self.found_answers = {}

    def is_bad(self):
        """Whether the question is bad."""
        return self._find(None, None) is not None

    def harm(self):
        """None if the question is safe, otherwise the isles that are away on the way to a harm that marks do."""
        return self._find(None, None)

    def every_seen(self):
        """The list of all that can be seen of isles, for each group of those asked for that hang together by needs."""
        rows = []
        left = self.asked_bits
        while left:
            bit = left & -left
            group = _hanging(self.of_plan, bit, self.asked_bits)
            rows.extend(self._seen_alone(bit) if group == bit else self._crew(group, None, None).every_seen())
            left = left & ~group
        return rows

    def _seen_alone(self, bit):
        """The list of all that can be seen of an isle that hangs with no other one, whoever asks for it."""
        key = ("seen", bit)
        if key not in self.crews:
            index = bit.bit_length() - 1
            isle = self.of_plan.isle_row[index]
            flags = (False, True, True, True)
            look = look_on(self.of_plan, index, flags, (isle.sleep, isle.wake), whole=False)
            self.crews[key] = sorted({look.weight_of(code) & SEEN for code in look.nodes()})
        return self.crews[key]

    def is_bad_with(self, at, rows):
        """Whether the question is bad if the isle with this index, one without turns, has these rows."""
        cut = self._cut(at, rows)
        if cut not in self.found_answers:
            self.found_answers[cut] = self._find(at, cut) is not None
        return self.found_answers[cut]

    def words_of(self, at):
        """The tuple of the words that matter of the isle with this index."""
        if not (self.asked_bits & ~self.of_plan.sleepless_mask) >> at & 1:
            return ()
        words = [word for pair, mask in zip(FLAG_WORDS, self.read_masks) if mask >> at & 1 for word in pair]
        if at == self.whole_at:
            isle = self.of_plan.isle_row[at]
            words.extend(["save", "back"] if isle.kept else [])
            words.extend(["reset"] if isle.plain else [])
        return tuple(words)

    def _find(self, at, cut):
        """The harm if this isle, if any, has these rows, of which nothing is left but what matters."""
        sight, rounds = self._sight_with(at, cut)
        if not self.core_bits:
            return 0 if sight.kind_of(0) == ALWAYS_BAD else None
        if self.alone:
            sleep, wake = self._rows(self.whole_at, at, cut)
            return self.core_bits if rounds.are_bad(sleep, wake) else None
        grid = Grid(self.scope, self._crew(self.core_bits, at, cut), sight)
        ahead, row = first_bad(grid)
        if row is None:
            return None
        away = 0
        while row is not None:
            away = away | grid.seen_in(row) & 255
            row = ahead[row]
        return away

    def _sight_with(self, at, cut):
        """(sight, rounds): how bad it is by what is seen of the core; rounds of an isle that is the core alone."""
        key = cut if at is not None and any([group >> at & 1 for group in self.free_groups]) else None
        if key not in self.found_sights:
            others = [0]
            for group in self.free_groups:
                seen = self._crew(group, at, cut).every_seen()
                others = [one | other for one in others for other in seen]
            sight = Sight(self.scope, others)
            self.found_sights[key] = (sight, Rounds(self.of_plan, sight) if self.alone else None)
        return self.found_sights[key]

    def _crew(self, isle_bits, at, cut):
        """The crew of these isles."""
        plan = self.of_plan
        # All that tells how the isles are looked at.
        key = (isle_bits, *[mask & isle_bits for mask in self.read_masks], self.whole_at, plan.sleepless_mask, at, cut)
        if key not in self.crews:
            looks = [self._look(index, isle_bits, self._rows(index, at, cut))
                     for index, _ in enumerate(plan.isle_row) if isle_bits >> index & 1]
            self.crews[key] = Crew(looks, plan.needed_masks)
        return self.crews[key]

    def _look(self, index, isle_bits, rows):
        """How an isle of a crew is looked at."""
        hangs = _hanging(self.of_plan, 1 << index, isle_bits) != 1 << index
        read_flags = (hangs, *[mask >> index & 1 == 1 for mask in self.read_masks])
        return look_on(self.of_plan, index, read_flags, rows, whole=index == self.whole_at)

    def _rows(self, index, at, cut):
        """The two rows of an isle, of which nothing is left but what matters, if this isle has these rows."""
        if index == at:
            return cut
        isle = self.of_plan.isle_row[index]
        return (isle.sleep, isle.wake) if isle.turns else self._cut(index, (isle.sleep, isle.wake))

    def _cut(self, at, rows):
        """Two rows without the words that do not matter of an isle."""
        words = self.words_of(at)
        return (tuple([word for word in rows[0] if word in words]), tuple([word for word in rows[1] if word in words]))

    def _groups(self, isle_bits):
        """The list of the groups of these isles that hang together by needs."""
        clock, shut, away = self.read_masks
        groups = []
        for index, _ in enumerate(self.of_plan.isle_row):
            if isle_bits >> index & 1:
                group = _hanging(self.of_plan, 1 << index, isle_bits)
                isle_bits = isle_bits & ~group
                # An isle that hangs with none and of which the clock alone is read has it on whenever this is worse.
                if group != 1 << index or (shut | away) >> index & 1:
                    groups.append(group)
        return groups


def _read_masks(plan, scope):
    """The isles of which clock, shut and away matter."""
    clock, shut, away = scope.read_bits
    if scope.whole_at is not None and (scope.track is None or plan.isle_row[scope.whole_at].kept):
        clock = clock | 1 << scope.whole_at
    return (clock, shut, away)


def _hanging(plan, mask, asked):
    """These isles, and all of those asked for that hang together with them by needs."""
    more = 0
    while more != mask:
        more = mask
        for index, needs in enumerate(plan.needed_masks):
            if mask >> index & 1:
                mask = mask | needs & asked
            elif asked >> index & 1 and needs & mask:
                mask = mask | 1 << index
    return mask
