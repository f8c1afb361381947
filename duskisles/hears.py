"""Hearing grids: the hearing rows of a wire, and which come behind which. A row is told as the number of its crew."""

from duskisles.crews import Crew
from duskisles.scopes import looks_at


class HearGrid:
    """The rows that tell who hears a wire: tuples of the stands of the isles of its hearing cone."""

    def __init__(self, chip, name):
        plan = chip.plan()
        track = plan.track_of_wire(chip.wire(name).name)
        owners = track.owner_bits()
        ends = plan.bits[track.from_place] | plan.bits[track.to_place]
        cone_bits = plan.closed(ends | owners, plan.needed_masks)
        self.crew = Crew(looks_at(plan, cone_bits, (plan.phase_bits(cone_bits), ends, owners, 0), 0), plan.need_masks)
        # The bits of the number of a crew for clocks that are off, and for owners that are shut.
        self.off_bits = ends << 16
        self.shut_bits = owners << 8

    def first_row_of(self):
        """The row of the beginning."""
        return self.crew.first_sum()

    def rows_behind(self, row):
        """The list of the next rows of a row."""
        return [other for other, _, _ in self.crew.moves_from(row)]

    def is_bad_in(self, row):
        """Whether the wire is not heard in a row."""
        return not row & self.off_bits and row & self.shut_bits > 0

    def row_of(self, number):
        """The row with a number."""
        return self.crew.stands_of(number)

    def number_for(self, row):
        """The number of a row."""
        return self.crew.sum_of(row)

    def events_between(self, row, other):
        """The list of events that lead from a row to a next one: silent ones, and at its end one that is not."""
        return self.crew.events_between(row, other)
