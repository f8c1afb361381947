"""Menders: all questions of a chip, asked with spots of it propped. Sets of spots are bits."""

from duskisles.duals import least_sets
from duskisles.proppings import Propping
from duskisles.props import spot_row
from duskisles.shortest import bad_run


class Mender:
    """A chip and its spots. The bits that are passed are those of the spots that are left, not propped."""

    def __init__(self, chip):
        self.of_chip = chip
        self.known = spot_row(chip)
        self.every_bit = (1 << len(self.known)) - 1
        crews = {}
        self.propping_row = [Propping(chip.plan(), question, self.known, crews) for question in chip.questions]

    def bits_of(self, spots):
        """The bits of these spots."""
        return sum([1 << index for index, spot in enumerate(self.known) if spot in spots])

    def spots_in(self, mask):
        """The ascending tuple of the spots with these bits."""
        return tuple([spot for index, spot in enumerate(self.known) if mask >> index & 1])

    def is_bad(self, left):
        """Whether a question is bad."""
        for propping in self.propping_row:
            if propping.is_bad(left):
                return True
        return False

    def is_bad_once(self, left):
        """The same, if nothing else is asked: what would serve later calls is not looked for."""
        for propping in self.propping_row:
            if propping.is_bad_once(left):
                return True
        return False

    def harm_of(self, left):
        """(question, events) with the first question that is bad, and a run that shows it."""
        row = [propping for propping in self.propping_row if propping.is_bad(left)]
        return (row[0].question, bad_run(self.of_chip, row[0].plan_with(left), row[0].question))

    def tables_of(self, left):
        """The tuple of the pairs (question, least table), if none is bad."""
        return tuple([(propping.question, propping.table_with(left)) for propping in self.propping_row])

    def least_bad(self):
        """The list of the least sets of spots that are bad if they are left: the clauses."""
        return least_sets([left for propping in self.propping_row for left in propping.least_bad()])
