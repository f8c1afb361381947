"""States of a chip: which events can come, what is behind them, and what is bad."""

from duskisles.errors import InvalidEvent, NotNow
from duskisles.moves import can_come, events_at, first_state, is_event, state_behind
from duskisles.questions import check_question, faults_of, is_bad_at


def begin(chip):
    """The first state."""
    return first_state(chip.plan())


def events_from(chip, state):
    """Yields the events that can come in a state: by isles the deed, the turns and the tick, then that of the shore."""
    events = events_at(chip.plan(), state[0])
    yield from events


def step(chip, state, event):
    """The state behind an event, any value, if it can come."""
    if not is_event(chip, event):
        raise InvalidEvent(0)
    if not can_come(chip.plan(), state[0], event):
        raise NotNow(0)
    return state_behind(chip.plan(), state, event)


def bad_moments(chip, state):
    """The ascending tuple of the bad moments of a state."""
    return faults_of(chip.plan(), state)


def is_bad(chip, state, question):
    """Whether a question, any value, is bad in a state."""
    check_question(chip, question)
    return is_bad_at(chip.plan(), state, question)
