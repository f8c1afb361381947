"""Tables that are shown to somebody who does not trust them."""

from duskisles.forms import are_held, are_marks, are_stands, is_tuple
from duskisles.grids import grid_of, shows_safe


def lets_table(chip, question, thing):
    """Whether any value is a table for a question, any value; not only the least one."""
    grid = grid_of(chip, question)
    if not isinstance(thing, tuple):
        return False
    known = grid.crew.known_stands()
    return all([_is_row(grid, known, row) for row in thing]) and shows_safe(grid, thing)


def _is_row(grid, known, value):
    """Whether any value is a row of a grid whose isles have these stands."""
    if not is_tuple(value, 3) or not are_stands(value[0], known):
        return False
    stands, marks, held = value
    return _are_whole_marks(grid, marks) and are_held(held, _shut_owners(grid, stands))


def _are_whole_marks(grid, value):
    """Whether any value is what a row of a grid has as marks."""
    if grid.whole_at is None:
        return is_tuple(value, 0)
    return are_marks(grid.crew.looks[grid.whole_at].of_isle, value)


def _shut_owners(grid, stands):
    """For each holding clamp of the wire, if there is one, whether its owner is shut with these stands."""
    if grid.track is None:
        return []
    return [stands[grid.bit_row.index(stop[2])][3] for stop in grid.track.stops if stop[4]]
