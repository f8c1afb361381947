"""Menders: all questions of a chip, asked with spots of it propped. Sets of spots are bits."""

from duskisles.duals import least_sets
from duskisles.forms import is_tuple
from duskisles.proppings import Propping
from duskisles.props import plan_with, spot_isles
from duskisles.runcheck import shows_run
from duskisles.shortest import bad_run
from duskisles.tablecheck import shows_table


class Mender:
    """A chip and its spots, ascending. The bits that are passed are those of the spots that are left, not propped."""

    def __init__(self, chip, known):
        self.of_chip = chip
        self.known = known
        self.every_bit = (1 << len(known)) - 1
        self.isle_rows = spot_isles(chip, known)
        crews = {}
        self.propping_row = [Propping(chip.plan(), question, self.isle_rows, crews) for question in chip.questions]

    def bits_of(self, spots):
        """The bits of these spots."""
        return sum([1 << index for index, spot in enumerate(self.known) if spot in spots])

    def spots_in(self, mask):
        """The ascending tuple of the spots with these bits."""
        return tuple([spot for index, spot in enumerate(self.known) if mask >> index & 1])

    def is_bad(self, left):
        """Whether a question is bad."""
        for propping in self.propping_row:
            if propping.is_bad(left):
                return True
        return False

    def is_bad_once(self, left):
        """The same, if nothing else is asked: what would serve later calls is not looked for."""
        for propping in self.propping_row:
            if propping.is_bad_once(left):
                return True
        return False

    def harm_of(self, left):
        """(question, events) with the first question that is bad, and a run that shows it."""
        row = [propping for propping in self.propping_row if propping.is_bad(left)]
        return (row[0].question, bad_run(self.of_chip, row[0].grid_with(left)))

    def tables_of(self, left):
        """The tuple of the pairs (question, least table), if none is bad."""
        return tuple([(propping.question, propping.table_with(left)) for propping in self.propping_row])

    def shows_safe(self, left, value):
        """Whether any value is a tuple with a pair (question, table) for each question, in order."""
        if not is_tuple(value, len(self.propping_row)):
            return False
        for propping, pair in zip(self.propping_row, value):
            if not is_tuple(pair, 2) or pair[0] != propping.question:
                return False
            if not shows_table(propping.grid_with(left), pair[1]):
                return False
        return True

    def shows_bad(self, left, question, events):
        """Whether any values are a question and a run at whose end it is bad for the first time."""
        if question not in self.of_chip.questions:
            return False
        plan = self.of_chip.plan()
        return shows_run(self.of_chip, plan_with(plan, self.isle_rows, left, plan.tracks), question, events)

    def least_bad(self):
        """The list of the least sets of spots that are bad if they are left: the clauses."""
        return least_sets([left for propping in self.propping_row for left in propping.least_bad()])
