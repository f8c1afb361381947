"""The desk: answers lines about a chip that is changed by lines."""

from duskisles.book import Book
from duskisles.chipreading import parts_of
from duskisles.chips import Chip
from duskisles.deskanswers import answer_to, moments_text
from duskisles.desklines import read_line
from duskisles.isles import Isle
from duskisles.props import with_propped
from duskisles.weaves import Weave

CHANGES = ("load", "rest", "rouse", "undo", "redo", "prop")


class Desk:
    """A book of a chip, and a weave of its present chip that begins anew with each change."""

    def __init__(self):
        self._book = Book(Chip(Isle("a")))
        self._weave = Weave(self._book.present)

    @property
    def chip(self):
        """The present chip."""
        return self._book.present

    def say(self, line):
        """Carries out a line, any value; returns its answer."""
        command, given = read_line(line)
        if command in CHANGES:
            self._change(command, given)
            self._weave = Weave(self._book.present)
            return "ok"
        if command == "do":
            self._weave.do(*given)
            return moments_text(self._weave.moments)
        if command == "back":
            self._weave.undo(given[0])
            return moments_text(self._weave.moments)
        if command == "post":
            return self._post_text(given[0])
        return answer_to(self._book.present, command, given)

    def say_all(self, *lines):
        """Yields the answers of several lines, each carried out when its answer is requested."""
        for line in lines:
            yield self.say(line)

    def _change(self, command, given):
        """Carries out a change of the book."""
        if command == "load":
            isles, wires, shore = parts_of(given)
            self._book.put(Chip.of(isles, wires, shore))
        elif command == "prop":
            self._book.put(with_propped(self._book.present, given))
        elif command == "rest":
            self._book.rest(*given)
        elif command == "rouse":
            self._book.rouse(*given)
        elif command == "undo":
            self._book.undo()
        else:
            self._book.redo()

    def _post_text(self, name):
        """Phase and count of the keeper of an isle, any name."""
        chip = self._book.present
        row = self._weave.state[0][chip.names.index(chip[name].name)]
        return f"{row[0]} {row[1]}"
