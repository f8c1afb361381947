"""Mending: which spots must be powered by the shore for a chip to be safe."""

from duskisles.duals import are_dual, least_covers, within_none
from duskisles.errors import NotSafe, TooMany
from duskisles.forms import is_ascending, is_tuple
from duskisles.memory import Memory
from duskisles.props import is_spot, spot_row, with_propped
from duskisles.tracks import mask_of
from duskisles.verdict import is_safe, lets_harm, lets_tables

MOST_SPOTS = 8


def mends(chip, *spots):
    """Whether these spots, any values, mend a chip."""
    return is_safe(with_propped(chip, spots))


def mending(chip):
    """A tuple of (spot, question, events): spots that mend a chip, and for each what is bad without it."""
    memory = Memory()
    left = spot_row(chip)
    _check_mended(memory, chip)
    for spot in spot_row(chip):
        fewer = _others(left, (spot,))
        if memory.bad_question(with_propped(chip, fewer)) is None:
            left = fewer
    return tuple([(spot, *memory.harm_of(with_propped(chip, _others(left, (spot,))))) for spot in left])


def clauses(chip):
    """The tuple of all clauses, shorter ones first, then ascending."""
    _check_count(chip)
    return _told(spot_row(chip), _clause_masks(Memory(), chip))


def fewest(chip):
    """The first set of those with the fewest spots that mend a chip."""
    _check_count(chip)
    memory = Memory()
    _check_mended(memory, chip)
    known = spot_row(chip)
    return _told(known, least_covers(_clause_masks(memory, chip), len(known)))[0]


def mend_paper(chip):
    """(sets, clauses): what shows somebody who does not trust this which spots mend a chip."""
    _check_count(chip)
    memory = Memory()
    known = spot_row(chip)
    masks = _clause_masks(memory, chip)
    sets = _told(known, least_covers(masks, len(known)))
    return (tuple([(row, memory.tables_of(with_propped(chip, row))) for row in sets]),
            tuple([(row, *memory.harm_of(with_propped(chip, _others(known, row)))) for row in _told(known, masks)]))


def lets_mends(chip, thing):
    """Whether any value is a right paper about which spots mend a chip."""
    known = spot_row(chip)
    if not is_tuple(thing, 2) or not _are_rows(known, thing[0], 2) or not _are_rows(known, thing[1], 3):
        return False
    bits = {spot: 1 << index for index, spot in enumerate(known)}
    sets = [mask_of(row[0], bits) for row in thing[0]]
    told = [mask_of(row[0], bits) for row in thing[1]]
    if not within_none(sets) or not within_none(told) or not are_dual(sets, told, len(known)):
        return False
    return (all([lets_tables(with_propped(chip, row), tables) for row, tables in thing[0]])
            and all([lets_harm(with_propped(chip, _others(known, row)), question, events)
                     for row, question, events in thing[1]]))


def _check_count(chip):
    """Raises TooMany if there are more spots than sets of them can be gone through."""
    if len(spot_row(chip)) > MOST_SPOTS:
        raise TooMany(MOST_SPOTS)


def _check_mended(memory, chip):
    """Raises NotSafe if all spots together do not mend the chip."""
    whole = with_propped(chip, spot_row(chip))
    if memory.bad_question(whole) is not None:
        question, events = memory.harm_of(whole)
        raise NotSafe(question, events)


def _others(known, row):
    """The tuple of these spots without those of a row."""
    return tuple([spot for spot in known if spot not in row])


def _clause_masks(memory, chip):
    """The list of the clauses, each as bits of the spots."""
    if memory.bad_question(chip) is None:
        return []
    known = spot_row(chip)
    masks = []
    # A set within another one is a lesser number, so it comes first.
    for mask in range(1 << len(known)):
        if not any([mask & other == other for other in masks]):
            chosen = _others(known, _spots_in(known, mask))
            if memory.bad_question(with_propped(chip, chosen)) is not None:
                masks.append(mask)
    return masks


def _spots_in(known, mask):
    """The ascending tuple of the spots with these bits."""
    return tuple([spot for index, spot in enumerate(known) if mask >> index & 1])


def _told(known, masks):
    """The tuple of these sets of spots, shorter ones first, then ascending."""
    return tuple(sorted([_spots_in(known, mask) for mask in masks], key=lambda row: (len(row), row)))


def _are_rows(known, value, count):
    """Whether any value is a tuple of tuples of so many, each with an ascending tuple of spots as its first item, in
    the order of a paper."""
    if not isinstance(value, tuple) or not all([is_tuple(row, count) and _are_spots(known, row[0]) for row in value]):
        return False
    return is_ascending([(len(row[0]), row[0]) for row in value])


def _are_spots(known, value):
    """Whether any value is an ascending tuple of these spots."""
    return isinstance(value, tuple) and all([is_spot(known, spot) for spot in value]) and is_ascending(value)
