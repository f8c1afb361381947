"""Conductors: they hold back deeds and turns, so that no bad moment ever comes."""

from duskisles.errors import InvalidEvent, NoState, NotLet, NotNow
from duskisles.forms import is_ascending, is_state
from duskisles.kept import Kept
from duskisles.moves import can_come, events_at, first_state, is_event, state_behind
from duskisles.names import is_integer
from duskisles.questions import faults_of
from duskisles.roads import Roads, is_all_up
from duskisles.rulings import Ruling


class Conductor:
    """Watches a chip from the first state on. Only the present state changes."""

    MOST = 20000

    def __init__(self, chip, *, most=20000):
        self._chip = chip
        self._plan = chip.plan()
        self._roads = Roads(self._plan, most)
        self._ruling = Ruling(self._plan, self._roads)
        self._present = first_state(self._plan)
        self._kept = None

    def __len__(self):
        return len(self._ruling.home_steps)

    def __contains__(self, value):
        return self._comes(value) and self._is_let(value)

    def allowed(self, state):
        """Yields the deeds and turns that are let in a state, any value."""
        if not self._comes(state):
            raise NoState(state)
        events = [event for event, _ in self._let_moves(self._roads.number_of[state])]
        yield from events

    @property
    def present(self):
        """The present state."""
        return self._present

    @present.setter
    def present(self, value):
        self.move(value)

    def move(self, value):
        """Makes a let state, any value, the present one."""
        if value not in self:
            raise NoState(value)
        self._present = value

    def do(self, *events):
        """Does these events, all or none; returns the state."""
        for index, event in enumerate(events):
            if not is_event(self._chip, event):
                raise InvalidEvent(index)
        plan = self._plan
        state = self._present
        for index, event in enumerate(events):
            if not can_come(plan, state[0], event):
                raise NotNow(index)
            behind = state_behind(plan, state, event)
            if event[0] != "tick" and not (self._is_let(state) and self._is_let(behind)):
                raise NotLet(event)
            state = behind
        self._present = state
        return state

    def guide(self):
        """A dict from the let states that come to the fewest let deeds and turns that bring all keepers up."""
        return {self._roads.state_row[number]: steps for number, steps in self._ruling.home_steps.items()}

    def home(self):
        """A list of so many let deeds and turns from the present state."""
        if not self._is_let(self._present):
            raise NoState(self._present)
        steps = self._ruling.home_steps
        number = self._roads.number_of[self._present]
        events = []
        while steps[number] > 0:
            nearer = [move for move in self._let_moves(number) if steps[move[1]] == steps[number] - 1]
            events.append(nearer[0][0])
            number = nearer[0][1]
        return events

    def refusal(self, state):
        """A refusal for a state, any value, that comes, or None if it is let."""
        if not self._comes(state):
            raise NoState(state)
        if self._is_let(state):
            return None
        rounds = self._ruling.refusal_of(self._roads.number_of[state])
        return [tuple(sorted([self._roads.state_row[number] for number in row])) for row in rounds]

    def trial(self):
        """An object for `with`, behind whose block the present state is the one ahead of it."""
        return self

    def __enter__(self):
        self._kept = Kept(self._present, self._kept)
        return self

    def __exit__(self, kind, value, trace):
        self._present = self._kept.now
        self._kept = self._kept.below

    def on_trial(self, work):
        """What `work` returns for the conductor, whose present state behind it is the one ahead of it."""
        present = self._present
        try:
            return work(self)
        finally:
            self._present = present

    def _comes(self, value):
        """Whether any value is a state that comes."""
        return is_state(self._plan, value) and value in self._roads.number_of

    def _is_let(self, state):
        """Whether a state that comes is let."""
        return self._roads.number_of[state] in self._ruling.home_steps

    def _let_moves(self, number):
        """The list of (event, number) for the deeds and turns that are let in a state."""
        if number not in self._ruling.home_steps:
            return []
        return [(event, other) for event, other in self._roads.move_rows[number] if other in self._ruling.home_steps]


def lets_guide(chip, thing):
    """Whether any value is a guide."""
    plan = chip.plan()
    if not isinstance(thing, dict) or not all([is_state(plan, state) for state in thing]):
        return False
    if not all([is_integer(number) and number >= 0 for number in list(thing.values())]):
        return False
    return all([_is_guided(plan, state, thing) for state in thing])


def lets_refusal(chip, state, thing):
    """Whether any value is a refusal for a state of the chip."""
    plan = chip.plan()
    if not isinstance(thing, list) or not thing or not all([_is_round(plan, row) for row in thing]):
        return False
    earlier = {}
    for row in thing:
        if not _is_refused(plan, row, earlier):
            return False
        for other in row:
            earlier[other] = True
    return is_state(plan, state) and state in thing[-1]


def _is_guided(plan, state, numbers):
    """Whether a state has no bad moment, its ticks lead to states with numbers, and its number tells the way."""
    if faults_of(plan, state) or not all([other in numbers for other in _behind(plan, state, True)]):
        return False
    if numbers[state] == 0:
        return is_all_up(state)
    return any([numbers.get(other) == numbers[state] - 1 for other in _behind(plan, state, False)])


def _is_round(plan, value):
    """Whether any value is an ascending tuple of one or more states."""
    if not isinstance(value, tuple) or len(value) == 0 or not all([is_state(plan, state) for state in value]):
        return False
    return is_ascending(value)


def _is_refused(plan, row, earlier):
    """Whether the states of a round are refused, if those of earlier rounds are."""
    if all([len(faults_of(plan, state)) > 0 for state in row]):
        return True
    if all([any([other in earlier for other in _behind(plan, state, True)]) for state in row]):
        return True
    if any([is_all_up(state) for state in row]):
        return False
    inside = {state: True for state in [*earlier, *row]}
    return all([other in inside for state in row for other in _behind(plan, state, False)])


def _behind(plan, state, ticks):
    """The list of the states behind the ticks of a state, or behind its deeds and turns."""
    return [state_behind(plan, state, event) for event in events_at(plan, state[0]) if (event[0] == "tick") == ticks]
