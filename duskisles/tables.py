"""Tables: the rows of a question, and which of them come."""

from duskisles.errors import NotSafe
from duskisles.grids import grid_of
from duskisles.judge import judged


def first_row(chip, question):
    """The row of the beginning of a question, any value."""
    grid = grid_of(chip, question)
    return grid.row_of(grid.first_row_of())


def next_rows(chip, question, row):
    """The ascending tuple of the next rows of a row of a question, any value."""
    grid = grid_of(chip, question)
    return tuple([grid.row_of(number) for number in sorted(set(grid.rows_behind(grid.number_for(row))))])


def is_bad(chip, question, row):
    """Whether a question, any value, is bad in a row."""
    grid = grid_of(chip, question)
    return grid.is_bad_in(grid.number_for(row))


def rows_by_steps(chip, question):
    """Yields the rows of a question, any value, that come: those by fewer steps first, ascending among equals."""
    grid = grid_of(chip, question)
    level = [grid.first_row_of()]
    met = {level[0]: True}
    while level:
        for number in level:
            yield grid.row_of(number)
        fresh = []
        for number in level:
            if not grid.is_bad_in(number):
                fresh.extend([other for other in grid.rows_behind(number) if other not in met])
        level = sorted(set(fresh))
        met.update({number: True for number in level})


def least_table(chip, question, *, most=20000):
    """The ascending tuple of all rows of a question, any value, that come, if it is safe."""
    word, found = judged(chip, question, most=most)
    if word == "bad":
        raise NotSafe(question, found)
    return found
