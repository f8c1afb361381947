"""Scopes: which isles a question asks for, and how it looks at each of them."""

from duskisles.looks import Look
from duskisles.questions import check_question
from duskisles.tracks import mask_of


class Scope:
    """The cone of a question of a chip. Sets of isles are bits."""

    def __init__(self, chip, question):
        plan = chip.plan()
        self.of_plan = plan
        self.track = None
        clock = shut = 0
        if question[0] == "isle":
            self.whole_bit = plan.bits[question[1]]
            powered = self.whole_bit
        else:
            self.track = plan.tracks[chip.wires.index(question[1])]
            wire = chip.wire(question[1])
            self.whole_bit = plan.bits[wire.driver]
            clock = plan.bits[wire.reader]
            shut = mask_of(wire.owners(), plan.bits)
            powered = self.whole_bit | mask_of(wire.places(), plan.bits) | mask_of(wire.lines(), plan.bits)
        away = plan.closed(powered, plan.under_masks)
        self.cone_bits = plan.closed(away | clock | shut, plan.needed_masks)
        self.read_bits = (plan.phase_bits(self.cone_bits), clock, shut, away)
        self.looks = [self._look_at(name) for name in self.cone_names()]

    def cone_names(self):
        """The ascending tuple of the names of the isles of the cone."""
        return self.of_plan.names_in(self.cone_bits)

    def whole_name(self):
        """The name of the full isle, or None."""
        names = self.of_plan.names_in(self.whole_bit)
        return names[0] if names else None

    def whole_looks(self):
        """Looks at the isles of the cone by which everything is read of each."""
        return [Look(look.of_isle, (True, True, True, True), whole=True, awake=look.awake) for look in self.looks]

    def _look_at(self, name):
        """How the question looks at an isle of the cone."""
        plan = self.of_plan
        bit = plan.bits[name]
        whole = bit == self.whole_bit
        read_flags = tuple([whole or mask & bit > 0 for mask in self.read_bits])
        return Look(plan.isle_row[plan.index_of[name]], read_flags, whole=whole, awake=plan.sleepless_mask & bit > 0)


def scope_of(chip, question):
    """The scope of a question of the chip. Raises NoQuestion for any other value."""
    check_question(chip, question)
    scopes = chip.plan().scopes
    if question not in scopes:
        scopes[question] = Scope(chip, question)
    return scopes[question]
