"""Judging a question: the least table, or a run at whose end it is bad."""

from duskisles.grids import events_up_to, grid_of, rows_that_come
from duskisles.shortest import whole_run

MOST_ROWS = 20000


def judged(chip, question, *, most=20000):
    """("safe", table) with the least table of a question, any value, or ("bad", events)."""
    grid = grid_of(chip, question)
    ahead, bad = rows_that_come(grid, most)
    if bad is None:
        return ("safe", _table(grid, ahead))
    return ("bad", whole_run(chip, question, events_up_to(grid, ahead, bad)))


def table_of(grid):
    """The least table of the question of a grid, one that is safe."""
    ahead, _ = rows_that_come(grid, MOST_ROWS)
    return _table(grid, ahead)


def _table(grid, numbers):
    """The table of the rows with these numbers, a dict."""
    return tuple([grid.row_of(number) for number in sorted(list(numbers))])
