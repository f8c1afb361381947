"""Hearing grids: the hearing rows of a wire, and which come behind which."""

from duskisles.crews import Crew
from duskisles.looks import Look
from duskisles.tracks import mask_of


class HearGrid:
    """The rows that tell who hears a wire: tuples of the stands of the isles of its hearing cone."""

    def __init__(self, chip, name):
        plan = chip.plan()
        wire = chip.wire(name)
        owners = mask_of(wire.owners(), plan.bits)
        ends = plan.bits[wire.driver] | plan.bits[wire.reader]
        cone_bits = plan.closed(ends | owners, plan.needed_masks)
        read_bits = (plan.phase_bits(cone_bits), ends, owners, 0)
        self.crew = Crew([_look_at(plan, other, read_bits) for other in plan.names_in(cone_bits)])
        names = self.crew.isle_names
        self.end_places = [names.index(end) for end in (wire.driver, wire.reader) if end != "shore"]
        self.owner_places = [names.index(owner) for owner in wire.owners()]

    def first_row_of(self):
        """The row of the beginning."""
        return self.crew.first_stands()

    def rows_behind(self, row):
        """The list of the next rows of a row."""
        return [(*row[:at], other, *row[at + 1:]) for at, other, _ in self.crew.moves_from(row)]

    def is_bad_in(self, row):
        """Whether the wire is not heard in a row."""
        return all([row[at][2] for at in self.end_places]) and any([row[at][3] for at in self.owner_places])

    def events_between(self, row, other):
        """The list of events that lead from a row to a next one: silent ones, and at its end one that is not."""
        return self.crew.events_between(row, other)


def _look_at(plan, name, read_bits):
    """How hearing looks at an isle."""
    bit = plan.bits[name]
    read_flags = tuple([mask & bit > 0 for mask in read_bits])
    return Look(plan.isle_row[plan.index_of[name]], read_flags, whole=False, awake=plan.sleepless_mask & bit > 0)
