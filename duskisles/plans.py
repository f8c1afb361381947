"""Plans: what steps and walks ask of a chip again and again, with sets of isles as bits of integers."""

from duskisles.tracks import mask_of, track_of


class Ground:
    """The isles of a chip, by names. The isle with the index i is the bit i."""

    def __init__(self, isles):
        self.isle_row = tuple(isles)
        self.index_of = {isle.name: index for index, isle in enumerate(isles)}
        bits = {isle.name: 1 << index for index, isle in enumerate(isles)}
        self.bits = {**bits, "shore": 0}
        self.need_masks = [mask_of(isle.needs, self.bits) for isle in isles]
        self.need_rows = [_indexes(mask, isles) for mask in self.need_masks]
        self.needing_rows = [tuple([other for other, mask in enumerate(self.need_masks) if mask >> index & 1])
                             for index, _ in enumerate(isles)]
        self.needed_masks = _onward(self.need_masks)
        # Looks that were asked for already, and what events make of marks.
        self.found_looks = {}
        self.found_marks = {}
        self.found_tables = {}


class Plan:
    """A chip, or one that has the same isles but for their leashes and whether they sleep. `tracks` is the list of the
    tracks of its wires, by names."""

    def __init__(self, ground, leash_masks, sleepless_mask, tracks):
        self.ground = ground
        self.isle_row = ground.isle_row
        self.index_of = ground.index_of
        self.bits = ground.bits
        self.need_masks = ground.need_masks
        self.need_rows = ground.need_rows
        self.needing_rows = ground.needing_rows
        self.needed_masks = ground.needed_masks
        self.leash_masks = leash_masks
        self.under_masks = [mask | 1 << index for index, mask in enumerate(_onward(leash_masks))]
        self.sleepless_mask = sleepless_mask
        self.tracks = tracks
        # Scopes of questions that were asked already, by question.
        self.scopes = {}

    def dark_mask(self, away):
        """The isles that are dark if these are away."""
        if not away:
            return 0
        return sum([1 << index for index, mask in enumerate(self.under_masks) if mask & away])

    def dim_of(self, at, away):
        """How dim it is for the isle with this index if these are away: 0, 1 if it is dark, 2 if its leash is dusty."""
        dark = self.dark_mask(away)
        if dark & self.leash_masks[at]:
            return 2
        return dark >> at & 1

    def closed(self, mask, rows):
        """These isles, and all that they have in these rows of masks."""
        for index, more in enumerate(rows):
            mask = mask | more if mask >> index & 1 else mask
        return mask

    def track_of_wire(self, name):
        """The track of the wire with this name."""
        return [track for track in self.tracks if track.wire_name == name][0]

    def phase_bits(self, mask):
        """Those of these isles that need one of them, or are needed by one of them."""
        return sum([1 << index for index, needs in enumerate(self.need_masks) if mask >> index & 1
                    and (needs & mask or any([mask >> other & 1 for other in self.needing_rows[index]]))])

    def names_in(self, mask):
        """The ascending tuple of the names of these isles."""
        return tuple([isle.name for index, isle in enumerate(self.isle_row) if mask >> index & 1])

    def powered(self, leash_masks, tracks):
        """The plan in which leashes and tracks are these."""
        return Plan(self.ground, leash_masks, self.sleepless_mask, tracks)


def plan_of(isles, wires):
    """The plan of these isles and wires, both by names."""
    ground = Ground(isles)
    leash_masks = [mask_of(isle.leash, ground.bits) for isle in isles]
    tracks = []
    for wire in wires:
        tracks.append(track_of(wire, ground.bits, sum([track.holders for track in tracks])))
    return Plan(ground, leash_masks, _sleepless(isles, ground.needed_masks), tracks)


def _indexes(mask, isles):
    """The ascending tuple of the indexes of the bits of a mask."""
    return tuple([index for index, _ in enumerate(isles) if mask >> index & 1])


def _onward(masks):
    """For each isle those to which ways of one or more steps lead from it."""
    if not any(masks):
        return masks
    rows = list(masks)
    for middle, _ in enumerate(masks):
        bit = 1 << middle
        rows = [row | rows[middle] if row & bit else row for row in rows]
    return rows


def _sleepless(isles, needed):
    """The isles that never leave up, if each needs these, directly or over others."""
    mask = 0
    for index, isle in enumerate(isles):
        if not isle.sleeps or needed[index] >> index & 1:
            mask = mask | needed[index] | 1 << index
    return mask
