"""Hearing: whether a wire is ever unheard, as one that its driver and its reader use while it is clamped."""

from duskisles.forms import are_stands, is_tuple
from duskisles.grids import events_up_to, rows_that_come, shows_safe
from duskisles.hears import HearGrid
from duskisles.moves import can_come, first_state, is_event, shut_mask, state_behind
from duskisles.shortest import run_with_sleep
from duskisles.tracks import mask_of


def is_heard(chip, state, name):
    """Whether a wire, any value, is heard in a state."""
    wire = chip.wire(name)
    plan = chip.plan()
    ticking = all([end == "shore" or state[0][plan.index_of[end]][2] for end in (wire.driver, wire.reader)])
    return not ticking or shut_mask(state[0]) & mask_of(wire.owners(), plan.bits) == 0


def hearing(chip, name, *, most=20000):
    """("always", rows) with the hearing rows of a wire, any value, that come, or ("not", events)."""
    grid = HearGrid(chip, name)
    ahead, unheard = rows_that_come(grid, most)
    if unheard is None:
        return ("always", tuple([grid.row_of(number) for number in sorted(list(ahead))]))
    return ("not", run_with_sleep(chip, grid.crew.isle_names, events_up_to(grid, ahead, unheard)))


def lets_hearing(chip, name, thing):
    """Whether any value tells rightly that a wire, any value, is always heard, or how it comes to be unheard."""
    grid = HearGrid(chip, name)
    if not is_tuple(thing, 2):
        return False
    word, told = thing
    if word == "always":
        return _are_rows(grid, told) and shows_safe(grid, [grid.number_for(row) for row in told])
    return word == "not" and isinstance(told, list) and _leads_to_unheard(chip, name, told)


def _are_rows(grid, value):
    """Whether any value is a tuple of hearing rows."""
    known = grid.crew.known_stands()
    return isinstance(value, tuple) and all([are_stands(row, known) for row in value])


def _leads_to_unheard(chip, name, events):
    """Whether the values of a list are events that can be done, and the wire is not heard behind them."""
    plan = chip.plan()
    state = first_state(plan)
    for event in events:
        if not is_event(chip, event) or not can_come(plan, state[0], event):
            return False
        state = state_behind(plan, state, event)
    return not is_heard(chip, state, name)
