"""Judging a question: the least table, or a run at whose end it is bad."""

from duskisles.grids import events_up_to, grid_of, rows_that_come
from duskisles.shortest import whole_run


def judged(chip, question, *, most=20000):
    """("safe", table) with the least table of a question, any value, or ("bad", events)."""
    grid = grid_of(chip, question)
    ahead, bad = rows_that_come(grid, most)
    if bad is None:
        return ("safe", tuple(sorted(list(ahead))))
    return ("bad", whole_run(chip, question, events_up_to(grid, ahead, bad)))
