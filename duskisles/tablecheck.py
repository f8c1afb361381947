"""Tables that are shown to somebody who does not trust them."""

from duskisles.forms import are_held, are_marks, are_stands, is_tuple
from duskisles.grids import grid_of, shows_safe


def lets_table(chip, question, thing):
    """Whether any value is a table for a question, any value; not only the least one."""
    return shows_table(grid_of(chip, question), thing)


def shows_table(grid, thing):
    """Whether any value is a table for the question of a grid."""
    if not isinstance(thing, tuple):
        return False
    known = grid.crew.known_stands()
    numbers = [_number_of(grid, known, row) for row in thing]
    return None not in numbers and shows_safe(grid, numbers)


def _number_of(grid, known, value):
    """The number of any value if it is a row of a grid whose isles have these stands, else None."""
    if not is_tuple(value, 3) or not are_stands(value[0], known):
        return None
    stands, marks, held = value
    if not _are_whole_marks(grid, marks) or not are_held(held, _shut_owners(grid, stands)):
        return None
    return grid.packed(sum([some[stand] for stand, some in zip(stands, known)]), marks, held)


def _are_whole_marks(grid, value):
    """Whether any value is what a row of a grid has as marks."""
    if grid.of_isle is None:
        return is_tuple(value, 0)
    return are_marks(grid.of_isle, value)


def _shut_owners(grid, stands):
    """For each holding clamp of the wire, if there is one, whether its owner is shut with these stands."""
    if not grid.low:
        return []
    shut = sum([1 << look.at for look, stand in zip(grid.crew.look_row, stands) if stand[3]])
    return [shut & stop[2] > 0 for stop in grid.track.stops if stop[4]]
