"""What was found out about questions of chips that are alike."""

from duskisles.chipwriting import chip_lines
from duskisles.cones import cone
from duskisles.judge import judged
from duskisles.needs import sleepless


class Memory:
    """Answers to questions. A question is judged once for all chips in which its cone and its wire are the same."""

    def __init__(self):
        self.found_tables = {}

    def table_of(self, chip, question):
        """The least table of a question, or None if it is bad."""
        sign = _sign(chip, question)
        if sign not in self.found_tables:
            word, found = judged(chip, question)
            self.found_tables[sign] = found if word == "safe" else None
        return self.found_tables[sign]

    def bad_question(self, chip):
        """The first question that is bad, or None."""
        for question in chip.questions:
            if self.table_of(chip, question) is None:
                return question
        return None

    def tables_of(self, chip):
        """The tuple of the pairs (question, least table) of a safe chip."""
        return tuple([(question, self.table_of(chip, question)) for question in chip.questions])

    def harm_of(self, chip):
        """(question, events) with the first question of a chip that is bad, and a run that shows it."""
        question = self.bad_question(chip)
        return (question, judged(chip, question)[1])


def _sign(chip, question):
    """All that the table of a question hangs on, in texts."""
    names = cone(chip, question)
    isles = [chip[name] for name in names]
    wires = [chip.wire(question[1])] if question[0] == "wire" else []
    awake = [name for name in sleepless(chip) if name in names]
    return (question, "\n".join(chip_lines(chip.shore, isles, wires)), " ".join(awake))
