"""Proppings: a question of a chip, asked with spots of it propped.

Sets of spots are bits: those of the spots that are not propped."""

from duskisles.duals import covers_with
from duskisles.grids import grid_in
from duskisles.judge import table_of
from duskisles.probes import Probe
from duskisles.props import plan_with
from duskisles.scopes import scope_on
from duskisles.sources import Sources


class Propping:
    """A question of a plan. `spot_row` has all spots of the chip, as `spot_isles` tells them; `crews` is that of Probe
    and of grids."""

    def __init__(self, plan, question, spot_row, crews):
        self.of_plan = plan
        self.crews = crews
        self.question = question
        self.scope = scope_on(plan, question)
        # The track of the wire, if the question is one of a wire.
        self.tracks = [] if self.scope.track is None else [self.scope.track]
        # The other spots do not matter.
        self.spot_row = [row for row in spot_row if _matters(plan, self.scope, row[1])]
        self.own_bits = sum([bit for bit, _, _ in self.spot_row])
        self.mark_bits = self._mark_bits()
        # What was found already: within a safe set all are safe, and around a bad one all are bad.
        self.safe_rows = []
        self.bad_rows = []
        self.found_sources = []
        self.found_marks = {}
        self.found_tables = {}

    def is_bad(self, left):
        """Whether the question is bad if these spots are left."""
        left = left & self.own_bits
        if any([left & ~row == 0 for row in self.safe_rows]):
            return False
        if any([left & row == row for row in self.bad_rows]):
            return True
        part = self._harm_in(left)
        if part is None:
            self.safe_rows.append(left)
        else:
            self.bad_rows.append(part)
        return part is not None

    def is_bad_once(self, left):
        """The same, if nothing else is asked."""
        return Probe(self._plan_with(left), self.question, self.crews).is_bad()

    def least_bad(self):
        """The list of the least sets of spots with which it is bad if they are left."""
        found = []
        covers = [0]
        while True:
            # Who has something of each set that was found is left out; in what remains another one may be found.
            bad = [self.own_bits & ~cover for cover in covers if self.is_bad(self.own_bits & ~cover)]
            if not bad:
                return found
            found.append(self._least_in(bad[0]))
            covers = covers_with(covers, found[-1])

    def grid_with(self, left):
        """The grid of the question if these spots are left."""
        return grid_in(scope_on(self._plan_with(left), self.question), self.crews)

    def table_with(self, left):
        """The least table if these spots are left, and the question is safe by this."""
        left = left & self.own_bits
        if left not in self.found_tables:
            self.found_tables[left] = table_of(self.grid_with(left))
        return self.found_tables[left]

    def _plan_with(self, left):
        """A plan that tells of the question what that of the chip does if these spots are left."""
        left = left & self.own_bits
        return self.of_plan if left == self.own_bits else plan_with(self.of_plan, self.spot_row, left, self.tracks)

    def _harm_in(self, left):
        """A set of spots among these with which it is bad, or None."""
        way = self._sources().way(left) if self.own_bits else None
        if way is not None:
            return way
        # What is left is what marks do, be they handed on or held.
        left = left & self.mark_bits
        if left not in self.found_marks:
            plan = self._plan_with(left)
            self.found_marks[left] = self._part_in(plan, left, Probe(plan, self.question, self.crews).harm())
        return self.found_marks[left]

    def _part_in(self, plan, left, harm):
        """Those of these spots that have a part in a harm: their isles are dark on the way to it."""
        if harm is None:
            return None
        dark = plan.dark_mask(harm)
        return sum([bit for bit, _, isle in self.spot_row if left & bit and dark & isle])

    def _sources(self):
        """The sources of dust."""
        if not self.found_sources:
            probe = Probe(self.of_plan, self.question, self.crews)
            self.found_sources.append(Sources(self.scope, self.spot_row, probe.every_seen()))
        return self.found_sources[0]

    def _mark_bits(self):
        """The spots by which marks become what they are: if no clamp holds, the leashes over which the full isle
        becomes dark."""
        if self.tracks and self.tracks[0].holders:
            return self.own_bits
        under = 0 if self.scope.whole_at is None else self.of_plan.under_masks[self.scope.whole_at]
        return sum([bit for bit, spot, _ in self.spot_row if spot[0] == "leash" and self.of_plan.bits[spot[1]] & under])

    def _least_in(self, left):
        """A least bad set within a bad one."""
        left = self._bad_within(left)
        for bit, _, _ in self.spot_row:
            if left & bit and self.is_bad(left & ~bit):
                left = self._bad_within(left & ~bit)
        return left

    def _bad_within(self, left):
        """The last set that was found to be bad of those within one that is."""
        return [row for row in self.bad_rows if left & row == row][-1]


def _matters(plan, scope, spot):
    """Whether a question asks for a spot."""
    if spot[0] == "leash":
        return scope.read_bits[2] & plan.bits[spot[1]] > 0
    return scope.track is not None and scope.track.wire_name == spot[1]
