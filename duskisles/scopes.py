"""Scopes: which isles a question asks for, and how it looks at each of them."""

from duskisles.looks import look_on
from duskisles.questions import check_question


class Scope:
    """The cone of a question of a plan. Sets of isles are bits; `whole_at` is the index of the full isle, or None, and
    `read_bits` are the isles of which clock, shut and away are read."""

    def __init__(self, plan, question):
        self.of_plan = plan
        self.track = None
        clock = shut = 0
        if question[0] == "isle":
            powered = whole = plan.bits[question[1]]
        else:
            self.track = plan.track_of_wire(question[1])
            whole = plan.bits[self.track.from_place]
            clock = plan.bits[self.track.to_place]
            shut = self.track.owner_bits()
            powered = whole | self.track.power_bits()
        away = plan.closed(powered, plan.under_masks)
        self.whole_at = whole.bit_length() - 1 if whole else None
        self.read_bits = (clock, shut, away)
        self.cone_bits = plan.closed(away | clock | shut, plan.needed_masks)
        # The looks at the isles of the cone, by names, once they were asked for.
        self.found_looks = []

    def cone_names(self):
        """The ascending tuple of the names of the isles of the cone."""
        return self.of_plan.names_in(self.cone_bits)

    def whole_name(self):
        """The name of the full isle, or None."""
        return None if self.whole_at is None else self.of_plan.isle_row[self.whole_at].name

    def looks(self):
        """The list of the looks at the isles of the cone, by names."""
        if not self.found_looks:
            masks = (self.of_plan.phase_bits(self.cone_bits), *self.read_bits)
            whole = 0 if self.whole_at is None else 1 << self.whole_at
            self.found_looks.extend(looks_at(self.of_plan, self.cone_bits, masks, whole))
        return self.found_looks

    def sign(self):
        """All that tells how the isles of the cone are looked at, but for the isles themselves."""
        masks = [mask & self.cone_bits for mask in self.read_bits]
        return ("rows", self.cone_bits, *masks, self.whole_at, self.of_plan.sleepless_mask)

    def whole_looks(self):
        """Looks at the isles of the cone by which everything is read of each."""
        return looks_at(self.of_plan, self.cone_bits, (0, 0, 0, 0), self.cone_bits)


def scope_of(chip, question):
    """The scope of a question of the chip. Raises NoQuestion for any other value."""
    check_question(chip, question)
    return scope_on(chip.plan(), question)


def scope_on(plan, question):
    """The scope of a question of a plan."""
    if question not in plan.scopes:
        plan.scopes[question] = Scope(plan, question)
    return plan.scopes[question]


def looks_at(plan, isle_bits, masks, whole_bits):
    """The list of the looks at these isles, by names, of which phase, clock, shut and away are read as these four masks
    tell, and everything of the whole ones."""
    looks = []
    for index, isle in enumerate(plan.isle_row):
        if isle_bits >> index & 1:
            whole = whole_bits >> index & 1 == 1
            read_flags = tuple([whole or mask >> index & 1 == 1 for mask in masks])
            looks.append(look_on(plan, index, read_flags, (isle.sleep, isle.wake), whole=whole))
    return looks
