"""Books: a chip that is changed, with its history."""

from duskisles.chips import Chip
from duskisles.errors import InvalidChip, NothingToUndo
from duskisles.kept import Kept
from duskisles.names import is_integer
from duskisles.resting import with_sleeps


class Book:
    """A chip that is changed. All that there is to it is one tuple (past, present, future) that is exchanged as a
    whole, so that a trial only has to put it back."""

    MOST = 50

    def __init__(self, chip):
        self._now = ((), chip, ())
        self._kept = None

    @property
    def present(self):
        """The present chip."""
        return self._now[1]

    @present.setter
    def present(self, value):
        self.put(value)

    def put(self, value):
        """Makes a chip, any value, the present one, as one change."""
        if not isinstance(value, Chip):
            raise InvalidChip("chip", None)
        past, present, _ = self._now
        rows = [*past, present]
        self._now = (tuple(rows[-Book.MOST:]), value, ())

    def change(self, work):
        """Makes what `work` returns for the present chip the present one; returns it."""
        chip = work(self._now[1])
        self.put(chip)
        return chip

    def rest(self, *names):
        """Lets these isles, any values, rest, as one change."""
        self.put(with_sleeps(self._now[1], names, False))

    def rouse(self, *names):
        """Lets these isles, any values, sleep again, as one change."""
        self.put(with_sleeps(self._now[1], names, True))

    def undo(self, count=1):
        """Takes back the last changes; returns the present chip."""
        past = self._now[0]
        if not is_integer(count) or not 1 <= count <= len(past):
            raise NothingToUndo(count)
        return self._go_to(len(past) - count)

    def redo(self, count=1):
        """Does again what was taken back last; returns the present chip."""
        past, _, future = self._now
        if not is_integer(count) or not 1 <= count <= len(future):
            raise NothingToUndo(count)
        return self._go_to(len(past) + count)

    def trial(self):
        """An object for `with`, behind whose block chip and history are as they were ahead of it."""
        return self

    def __enter__(self):
        self._kept = Kept(self._now, self._kept)
        return self

    def __exit__(self, kind, value, trace):
        self._now = self._kept.now
        self._kept = self._kept.below

    def on_trial(self, work):
        """What `work` returns for the book, whose chip and history behind it are as they were ahead of it."""
        now = self._now
        try:
            return work(self)
        finally:
            self._now = now

    def __len__(self):
        return len(self._now[0])

    def __eq__(self, other):
        return isinstance(other, Book) and self._now[1] == other._now[1]

    def _go_to(self, at):
        """Makes the chip with this index among past, present and future the present one; returns it."""
        past, present, future = self._now
        rows = (*past, present, *future)
        self._now = (rows[:at], rows[at], rows[at + 1:])
        return rows[at]
