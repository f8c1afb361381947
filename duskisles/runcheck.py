"""Runs that are shown to somebody who does not trust them."""

from duskisles.moves import can_come, first_state, is_event, state_behind
from duskisles.questions import check_question, is_bad_at


def lets_run(chip, question, thing):
    """Whether any value is a list of events that can be done, at whose end for the first time a question, any value,
    is bad."""
    check_question(chip, question)
    return shows_run(chip, chip.plan(), question, thing)


def shows_run(chip, plan, question, thing):
    """The same for a question of the chip and a plan, which is that of the chip or of one with the same events."""
    if not isinstance(thing, list):
        return False
    state = first_state(plan)
    bad = False
    for event in thing:
        if bad or not is_event(chip, event) or not can_come(plan, state[0], event):
            return False
        state = state_behind(plan, state, event)
        bad = is_bad_at(plan, state, question)
    return bad
