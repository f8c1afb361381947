"""Proppings: a question of a chip, asked with spots of it propped.

Sets of spots are bits: those of the spots that are not propped."""

from duskisles.duals import covers_with
from duskisles.judge import table_on
from duskisles.probes import Probe
from duskisles.scopes import scope_on
from duskisles.sources import Sources
from duskisles.tracks import Track


class Propping:
    """A question of a plan, with the spots of the chip, ascending; `crews` is that of Probe."""

    def __init__(self, plan, question, known, crews):
        self.of_plan = plan
        self.crews = crews
        self.question = question
        self.scope = scope_on(plan, question)
        self.track = self.scope.track
        # (its bit, spot, isle) for those that the question asks for; the others do not matter.
        self.spot_row = [(1 << index, spot, _isle_of(plan, self.scope, spot)) for index, spot in enumerate(known)
                         if _matters(plan, self.scope, spot)]
        self.own_bits = sum([bit for bit, _, _ in self.spot_row])
        self.mark_bits = self._mark_bits()
        # What was found already: within a safe set all are safe, and around a bad one all are bad.
        self.safe_rows = []
        self.bad_rows = []
        self.found_sources = []
        self.found_marks = {}
        self.found_tables = {}

    def is_bad(self, left):
        """Whether the question is bad if these spots are left."""
        left = left & self.own_bits
        if any([left & ~row == 0 for row in self.safe_rows]):
            return False
        if any([left & row == row for row in self.bad_rows]):
            return True
        part = self._harm_in(left)
        if part is None:
            self.safe_rows.append(left)
        else:
            self.bad_rows.append(part)
        return part is not None

    def is_bad_once(self, left):
        """The same, if nothing else is asked."""
        left = left & self.own_bits
        plan = self.of_plan if left == self.own_bits else self.plan_with(left)
        return Probe(plan, self.question, self.crews).is_bad()

    def least_bad(self):
        """The list of the least sets of spots with which it is bad if they are left."""
        found = []
        covers = [0]
        while True:
            # Who has something of each set that was found is left out; in what remains another one may be found.
            bad = [self.own_bits & ~cover for cover in covers if self.is_bad(self.own_bits & ~cover)]
            if not bad:
                return found
            found.append(self._least_in(bad[0]))
            covers = covers_with(covers, found[-1])

    def plan_with(self, left):
        """A plan that tells of the question what that of the chip does if these spots are left."""
        plan = self.of_plan
        leash_masks = [0 for _ in plan.isle_row]
        powers = [] if self.track is None else [[0, 0] for _ in self.track.stops]
        for bit, spot, isle in self.spot_row:
            if left & bit:
                if spot[0] == "leash":
                    at = plan.index_of[spot[1]]
                    leash_masks[at] = leash_masks[at] | isle
                else:
                    part = 0 if spot[0] == "station" else 1
                    powers[spot[2]][part] = powers[spot[2]][part] | isle
        return plan.powered(leash_masks, self._tracks(powers))

    def table_with(self, left):
        """The least table if these spots are left, and the question is safe by this."""
        left = left & self.own_bits
        if left not in self.found_tables:
            self.found_tables[left] = table_on(self.plan_with(left), self.question)
        return self.found_tables[left]

    def _tracks(self, powers):
        """The list of the track of the wire, if it is one, with its stations powered like this."""
        if self.track is None:
            return []
        stops = tuple([(station, place, owner, line, holds)
                       for (station, _, owner, _, holds), (place, line) in zip(self.track.stops, powers)])
        return [Track(self.track.wire_name, (self.track.from_place, self.track.to_place), stops, 0)]

    def _harm_in(self, left):
        """A set of spots among these with which it is bad, or None."""
        way = self._sources().way(left) if self.own_bits else None
        if way is not None:
            return way
        # What is left is what marks do, be they handed on or held.
        left = left & self.mark_bits
        if left not in self.found_marks:
            plan = self.of_plan if left == self.own_bits else self.plan_with(left)
            self.found_marks[left] = self._part_in(plan, left, Probe(plan, self.question, self.crews).harm())
        return self.found_marks[left]

    def _part_in(self, plan, left, harm):
        """Those of these spots that have a part in a harm: their isles are dark on the way to it."""
        if harm is None:
            return None
        dark = plan.dark_mask(harm)
        return sum([bit for bit, _, isle in self.spot_row if left & bit and dark & isle])

    def _sources(self):
        """The sources of dust."""
        if not self.found_sources:
            probe = Probe(self.of_plan, self.question, self.crews)
            self.found_sources.append(Sources(self.scope, self.spot_row, probe.every_seen()))
        return self.found_sources[0]

    def _mark_bits(self):
        """The spots by which marks become what they are: if no clamp holds, the leashes over which the full isle
        becomes dark."""
        if self.track is not None and self.track.holders:
            return self.own_bits
        under = 0 if self.scope.whole_at is None else self.of_plan.under_masks[self.scope.whole_at]
        return sum([bit for bit, spot, _ in self.spot_row if spot[0] == "leash" and self.of_plan.bits[spot[1]] & under])

    def _least_in(self, left):
        """A least bad set within a bad one."""
        left = self._bad_within(left)
        for bit, _, _ in self.spot_row:
            if left & bit and self.is_bad(left & ~bit):
                left = self._bad_within(left & ~bit)
        return left

    def _bad_within(self, left):
        """The last set that was found to be bad of those within one that is."""
        return [row for row in self.bad_rows if left & row == row][-1]


def _matters(plan, scope, spot):
    """Whether a question asks for a spot."""
    if spot[0] == "leash":
        return scope.read_bits[2] & plan.bits[spot[1]] > 0
    return scope.track is not None and scope.track.wire_name == spot[1]


def _isle_of(plan, scope, spot):
    """The isle, as a bit, whose power is used at a spot for which a question asks."""
    if spot[0] == "leash":
        return plan.bits[plan.isle_row[plan.index_of[spot[1]]].leash[spot[2]]]
    station, place, _, _, _ = scope.track.stops[spot[2]]
    return place if spot[0] == "station" else plan.bits[station.line[spot[3]]]
