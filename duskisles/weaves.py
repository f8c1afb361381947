"""Weaves: runs of a chip that can be taken back."""

from duskisles.errors import InvalidEvent, NothingToUndo, NotNow
from duskisles.kept import Kept
from duskisles.moves import can_come, first_state, is_event, state_behind
from duskisles.names import is_integer
from duskisles.questions import faults_of


class Weave:
    """A run of a chip. What was done is one tuple (events, states, first) that is exchanged as a whole, so that a
    trial only has to put it back."""

    def __init__(self, chip):
        self._chip = chip
        self._plan = chip.plan()
        self._now = ((), (first_state(self._plan),), None)
        self._kept = None

    @classmethod
    def of(cls, chip, events):
        """The weave behind the events of a list or tuple."""
        weave = cls(chip)
        weave.do(*events)
        return weave

    @property
    def chip(self):
        """The chip."""
        return self._chip

    @property
    def events(self):
        """The tuple of the events that were done."""
        return self._now[0]

    @property
    def state(self):
        """The present state."""
        return self._now[1][-1]

    @property
    def moments(self):
        """The bad moments of the present state."""
        return faults_of(self._plan, self._now[1][-1])

    @property
    def first(self):
        """The number of events behind which there was a bad moment for the first time, or None."""
        return self._now[2]

    def do(self, *events):
        """Does these events, all or none; returns the state."""
        for index, event in enumerate(events):
            if not is_event(self._chip, event):
                raise InvalidEvent(index)
        plan = self._plan
        done, rows, first = self._now
        fresh = [rows[-1]]
        for index, event in enumerate(events):
            if not can_come(plan, fresh[-1][0], event):
                raise NotNow(index)
            fresh.append(state_behind(plan, fresh[-1], event))
            if first is None and faults_of(plan, fresh[-1]):
                first = len(done) + index + 1
        self._now = ((*done, *events), (*rows, *fresh[1:]), first)
        return fresh[-1]

    def undo(self, count=1):
        """Takes back the last events; returns the tuple of them."""
        done, rows, first = self._now
        if not is_integer(count) or not 1 <= count <= len(done):
            raise NothingToUndo(count)
        left = len(done) - count
        still_bad = first is not None and first <= left
        self._now = (done[:left], rows[:left + 1], first if still_bad else None)
        return done[left:]

    def trial(self):
        """An object for `with`, behind whose block the weave is as it was ahead of it."""
        return self

    def __enter__(self):
        self._kept = Kept(self._now, self._kept)
        return self

    def __exit__(self, kind, value, trace):
        self._now = self._kept.now
        self._kept = self._kept.below

    def on_trial(self, work):
        """What `work` returns for the weave, which behind it is as it was ahead of it."""
        now = self._now
        try:
            return work(self)
        finally:
            self._now = now

    def __call__(self, event):
        """Whether any value is an event that can come now."""
        return is_event(self._chip, event) and can_come(self._plan, self.state[0], event)

    def states(self):
        """Yields the first state and the state behind each event that there is at the first request."""
        rows = self._now[1]
        yield from rows

    def twin(self):
        """A weave with the same events that goes its own way."""
        weave = Weave(self._chip)
        weave._now = self._now
        return weave

    def __contains__(self, event):
        return is_event(self._chip, event) and event in self._now[0]

    def __len__(self):
        return len(self._now[0])

    def __eq__(self, other):
        return isinstance(other, Weave) and self._chip == other._chip and self._now[0] == other._now[0]
