"""Shortest runs: the fewest events behind which a question is bad, and what the rest of the chip does ahead of them."""

from duskisles.grids import events_up_to, first_bad, rows_that_come, whole_grid_of
from duskisles.needs import Sleepers
from duskisles.scopes import scope_of


def shortest(chip, question, *, most=20000):
    """The fewest events of isles of the cone behind which a question, any value, is bad, or None if it is safe."""
    grid = whole_grid_of(chip, question)
    ahead, bad = rows_that_come(grid, most)
    return None if bad is None else events_up_to(grid, ahead, bad)


def whole_run(chip, question, events):
    """The events of the chip: ahead of these the sleep of isles outside the cone that keep up those that leave up."""
    return run_with_sleep(chip, scope_of(chip, question).cone_names(), events)


def bad_run(chip, grid):
    """The list of the events of a run at whose end the question of a grid is bad, one that is so. The grid is that of
    the chip, or of one with the same isles but for what they do when."""
    ahead, bad = first_bad(grid)
    return run_with_sleep(chip, grid.crew.isle_names, events_up_to(grid, ahead, bad))


def run_with_sleep(chip, names, events):
    """The list of these events of isles with these names, ahead of it the sleep of others that keep them up."""
    plan = chip.plan()
    # All are up at first, so whoever does a deed leaves up.
    leaving = [plan.index_of[name] for name in names if ("deed", name) in events]
    outside = []
    ahead = [other for index in leaving for other in plan.needing_rows[index] if chip.names[other] not in names]
    if not ahead:
        return list(events)
    while ahead:
        index = ahead.pop()
        if index not in outside:
            outside.append(index)
            ahead.extend(plan.needing_rows[index])
    deeds = Sleepers.of(chip, [chip.names[index] for index in outside]).deeds()
    return [*deeds, *events]
