"""What was found out about questions of chips that are alike."""

from duskisles.chipwriting import chip_lines
from duskisles.cones import cone
from duskisles.judge import judged
from duskisles.needs import sleepless


class Memory:
    """Answers to questions. A question is judged once for all chips in which its cone and its wire are the same."""

    def __init__(self):
        self.found_answers = {}
        # Tables are large, so only those are kept that were asked for.
        self.found_tables = {}

    def bad_question(self, chip):
        """The first question of a chip that is bad, or None."""
        for question in chip.questions:
            sign = _sign(chip, question)
            if sign not in self.found_answers:
                self.found_answers[sign] = judged(chip, question)[0]
            if self.found_answers[sign] == "bad":
                return question
        return None

    def harm_of(self, chip):
        """(question, events) with the first question of a chip that is bad, and a run that shows it."""
        question = self.bad_question(chip)
        return (question, judged(chip, question)[1])

    def tables_of(self, chip):
        """The tuple of the pairs (question, least table) of a safe chip."""
        rows = []
        for question in chip.questions:
            sign = _sign(chip, question)
            if sign not in self.found_tables:
                self.found_tables[sign] = judged(chip, question)[1]
            rows.append((question, self.found_tables[sign]))
        return tuple(rows)


def _sign(chip, question):
    """All that the table of a question hangs on, in texts."""
    names = cone(chip, question)
    isles = [chip[name] for name in names]
    wires = [chip.wire(question[1])] if question[0] == "wire" else []
    awake = [name for name in sleepless(chip) if name in names]
    return (question, "\n".join(chip_lines(chip.shore, isles, wires)), " ".join(awake))
