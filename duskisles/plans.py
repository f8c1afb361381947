"""Plans: what steps and walks ask of a chip again and again, with sets of isles as bits of integers."""

from duskisles.tracks import Track, mask_of


class Plan:
    """The isles and wires of a chip, by names. The isle with the index i is the bit i."""

    def __init__(self, isles, wires):
        self.isle_row = tuple(isles)
        self.index_of = {isle.name: index for index, isle in enumerate(isles)}
        bits = {isle.name: 1 << index for index, isle in enumerate(isles)}
        self.bits = {**bits, "shore": 0}
        self.leash_masks = [mask_of(isle.leash, self.bits) for isle in isles]
        self.under_masks = [mask | 1 << index for index, mask in enumerate(_onward(self.leash_masks))]
        self.need_masks = [mask_of(isle.needs, self.bits) for isle in isles]
        self.need_rows = [_indexes(mask, isles) for mask in self.need_masks]
        self.needing_rows = [tuple([other for other, mask in enumerate(self.need_masks) if mask >> index & 1])
                             for index, _ in enumerate(isles)]
        self.needed_masks = _onward(self.need_masks)
        self.sleepless_mask = _sleepless(isles, self.needed_masks)
        self.tracks = _tracks(wires, self.bits)
        self.holding_row = [stop[0] for track in self.tracks for stop in track.stops if stop[4]]
        # Scopes of questions that were asked already, by question.
        self.scopes = {}

    def dark_mask(self, away):
        """The isles that are dark if these are away."""
        return sum([1 << index for index, mask in enumerate(self.under_masks) if mask & away])

    def closed(self, mask, rows):
        """These isles, and all that they have in these rows of masks."""
        for index, more in enumerate(rows):
            mask = mask | more if mask >> index & 1 else mask
        return mask

    def phase_bits(self, mask):
        """Those of these isles that need one of them, or are needed by one of them."""
        return sum([1 << index for index, needs in enumerate(self.need_masks) if mask >> index & 1
                    and (needs & mask or any([mask >> other & 1 for other in self.needing_rows[index]]))])

    def names_in(self, mask):
        """The ascending tuple of the names of these isles."""
        return tuple([isle.name for index, isle in enumerate(self.isle_row) if mask >> index & 1])


def _indexes(mask, isles):
    """The ascending tuple of the indexes of the bits of a mask."""
    return tuple([index for index, _ in enumerate(isles) if mask >> index & 1])


def _tracks(wires, bits):
    """The list of the tracks of these wires, in order."""
    tracks = []
    for wire in wires:
        tracks.append(Track(wire, bits, sum([track.holders for track in tracks])))
    return tracks


def _onward(masks):
    """For each isle those to which ways of one or more steps lead from it."""
    rows = list(masks)
    for middle, _ in enumerate(masks):
        bit = 1 << middle
        rows = [row | rows[middle] if row & bit else row for row in rows]
    return rows


def _sleepless(isles, needed):
    """The isles that never leave up, if each needs these, directly or over others."""
    mask = 0
    for index, isle in enumerate(isles):
        if not isle.sleeps or needed[index] >> index & 1:
            mask = mask | needed[index] | 1 << index
    return mask
