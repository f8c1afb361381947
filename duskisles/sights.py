"""Sights: how bad a question is by what is seen of the isles: which are away, which are shut and whose clock is off, in
8 bits each."""

from duskisles.markrows import DRIVEN
from duskisles.tracks import end_number

# How bad it is, as the least number of marks of the full isle with which it is bad: whatever they are, if kept or plain
# is not clean, or never.
ALWAYS_BAD = 0
BAD_BY_MARKS = 3
NEVER_BAD = 18
# A mark that comes to the end of a wire if that of the driver does.
HANDED_ON = 4


class Sight:
    """How bad a question is. `others` is the list of all that can be seen of isles of which nothing else matters: it is
    as bad as it is with the worst of these."""

    def __init__(self, scope, others):
        self.of_plan = scope.of_plan
        self.whole_at = scope.whole_at
        self.step_row = None if scope.track is None else scope.track.power_steps()
        self.off_bits = scope.read_bits[0] << 16
        self.others = others
        self.found_kinds = {}
        self.found_ends = {}

    def kind_of(self, seen):
        """How bad the question is, if no clamp of the wire holds."""
        if seen not in self.found_kinds:
            self.found_kinds[seen] = min([self._kind(seen | other) for other in self.others])
        return self.found_kinds[seen]

    def is_bad_by(self, seen, mark, held):
        """Whether the question of a wire is bad with this number of marks and this one of held marks."""
        key = (seen, DRIVEN[mark], held)
        if key not in self.found_ends:
            self.found_ends[key] = self._ends_badly(*key)
        return self.found_ends[key]

    def is_dark(self, dark):
        """Whether the full isle is one of these isles."""
        return self.whole_at is not None and dark >> self.whole_at & 1 == 1

    def _kind(self, seen):
        """How bad the question is without other isles."""
        dark = self.of_plan.dark_mask(seen & 255)
        if self.step_row is None:
            if seen >> 16 + self.whole_at & 1:
                return NEVER_BAD
            end = HANDED_ON
        elif seen & self.off_bits:
            return NEVER_BAD
        else:
            end = end_number(self.step_row, HANDED_ON, dark, seen >> 8 & 255, 0)
        if end == HANDED_ON:
            if self.whole_at is None:
                return NEVER_BAD
            return ALWAYS_BAD if self.is_dark(dark) else BAD_BY_MARKS
        return ALWAYS_BAD if end else NEVER_BAD

    def _ends_badly(self, seen, driven, held):
        """Whether the mark at the end is not clean if this one is behind a driver that is not dark."""
        if seen & self.off_bits:
            return False
        dark = self.of_plan.dark_mask(seen & 255)
        mark = 1 if self.is_dark(dark) else driven
        return end_number(self.step_row, mark, dark, seen >> 8 & 255, held) != 0
