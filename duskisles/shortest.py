"""Shortest runs: the fewest events behind which a question is bad, and what the rest of the chip does ahead of them."""

from duskisles.grids import events_up_to, first_bad, grid_on, rows_that_come, whole_grid_of
from duskisles.links import needing
from duskisles.needs import Sleepers
from duskisles.scopes import scope_of, scope_on


def shortest(chip, question, *, most=20000):
    """The fewest events of isles of the cone behind which a question, any value, is bad, or None if it is safe."""
    grid = whole_grid_of(chip, question)
    ahead, bad = rows_that_come(grid, most)
    return None if bad is None else events_up_to(grid, ahead, bad)


def whole_run(chip, question, events):
    """The events of the chip: ahead of these the sleep of isles outside the cone that keep up those that leave up."""
    return run_with_sleep(chip, scope_of(chip, question).cone_names(), events)


def bad_run(chip, plan, question):
    """The list of the events of a run at whose end a question is bad that is so by a plan, which is that of the chip or
    of one with the same needs."""
    grid = grid_on(plan, question)
    ahead, bad = first_bad(grid)
    return run_with_sleep(chip, scope_on(plan, question).cone_names(), events_up_to(grid, ahead, bad))


def run_with_sleep(chip, names, events):
    """The list of these events of isles with these names, ahead of it the sleep of others that keep them up."""
    # All are up at first, so whoever does a deed leaves up.
    leaving = [name for name in names if ("deed", name) in events]
    links = needing(chip)
    outside = []
    ahead = [other for name in leaving for other in links[name] if other not in names]
    while ahead:
        name = ahead.pop()
        if name not in outside:
            outside.append(name)
            ahead.extend(links[name])
    deeds = Sleepers.of(chip, outside).deeds()
    return [*deeds, *events]
