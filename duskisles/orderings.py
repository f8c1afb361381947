"""Orderings: the questions of a chip, asked with other orders of the rows of an isle."""

from duskisles.grids import grid_on
from duskisles.judge import table_of
from duskisles.probes import Probe
from duskisles.shortest import bad_run


class Orderings:
    """A chip and one of its isles, which has no turns."""

    def __init__(self, chip, isle):
        self.of_chip = chip
        self.of_isle = isle
        self.at = chip.plan().index_of[isle.name]
        self.crews = {}
        self.probe_rows = [(question, Probe(chip.plan(), question, self.crews)) for question in chip.questions]

    def bad_question(self, order):
        """The first question that is bad if the isle has this order, or None."""
        for question, probe in self.probe_rows:
            if probe.is_bad_with(self.at, order):
                return question
        return None

    def is_harm(self, pair, order):
        """Whether a question is bad with an order because it breaks this pair; there is no other harm in it."""
        for _, probe in self.probe_rows:
            words = probe.words_of(self.at)
            if pair[0] in words and pair[1] in words and probe.is_bad_with(self.at, order):
                return True
        return False

    def harm_of(self, order):
        """(order, question, events) with the first question that is bad with an order, and a run that shows it."""
        question = self.bad_question(order)
        self.forget()
        chip = self._chip_with(order)
        return (order, question, bad_run(chip, grid_on(chip.plan(), question)))

    def tables_of(self, order, found):
        """The tuple of the pairs (question, least table) with an order that is safe. `found` is a dict with the tables
        that were found already."""
        chip = self._chip_with(order)
        rows = []
        for question, probe in self.probe_rows:
            # The order says nothing to a question that does not ask for the isle.
            key = (question, order if probe.scope.cone_bits >> self.at & 1 else None)
            if key not in found:
                found[key] = table_of(grid_on(chip.plan(), question))
            rows.append((question, found[key]))
        return tuple(rows)

    def forget(self):
        """Forgets what is large and is found again if it is asked for."""
        self.crews.clear()

    def _chip_with(self, order):
        """The chip in which the isle has this order."""
        return self.of_chip.with_isles(self.of_isle.changed(sleep=order[0], wake=order[1]))
