"""Resting isles: which ones may be switched off if all others never sleep."""

from duskisles.errors import NotSafe
from duskisles.links import check_isles
from duskisles.memory import Memory
from duskisles.resting import with_sleepers, with_sleeps
from duskisles.verdict import is_safe


def rested(chip, *names):
    """The chip in which these isles, any values, rest."""
    return with_sleeps(chip, names, False)


def may_sleep(chip, *names):
    """Whether these isles, any values, may be switched off."""
    return is_safe(with_sleepers(chip, names))


def sleepers(chip, *first):
    """(names, reasons): isles that may be switched off, these ones among them, and for each other one what is bad with
    it."""
    check_isles(chip, first)
    memory = Memory()
    chosen = sorted(set(first))
    if memory.bad_question(with_sleepers(chip, chosen)) is not None:
        question, events = memory.harm_of(with_sleepers(chip, chosen))
        raise NotSafe(question, events)
    for name in chip.names:
        if name not in chosen and memory.bad_question(with_sleepers(chip, [*chosen, name])) is None:
            chosen = [*chosen, name]
    reasons = [(name, *memory.harm_of(with_sleepers(chip, [*chosen, name])))
               for name in chip.names if name not in chosen]
    return (tuple(sorted(chosen)), tuple(reasons))


def greatest(chip):
    """Yields all sets of isles that may be switched off and to which none can be added, ascending."""
    rows = _greatest_rows(chip, Memory())
    yield from rows


def _greatest_rows(chip, memory):
    """The ascending list of these sets, as ascending tuples."""
    found = []
    # A set within another one is a lesser number, so the others come first.
    for mask in range((1 << len(chip)) - 1, -1, -1):
        names = chip.plan().names_in(mask)
        if not any([all([name in row for name in names]) for row in found]):
            if memory.bad_question(with_sleepers(chip, names)) is None:
                found.append(names)
    return sorted(found)
