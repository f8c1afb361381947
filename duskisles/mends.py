"""Mending: which spots must be powered by the shore for a chip to be safe."""

from duskisles.duals import are_dual, least_covers, within_none
from duskisles.errors import NotSafe, TooMany
from duskisles.forms import is_ascending, is_tuple
from duskisles.menders import Mender
from duskisles.props import check_spots, is_spot, spot_row

MOST_SPOTS = 8


def mends(chip, *spots):
    """Whether these spots, any values, mend a chip."""
    known = spot_row(chip)
    check_spots(known, spots)
    mender = Mender(chip, known)
    return not mender.is_bad_once(mender.every_bit & ~mender.bits_of(spots))


def mending(chip):
    """A tuple of (spot, question, events): spots that mend a chip, and for each what is bad without it."""
    mender = Mender(chip, spot_row(chip))
    _check_mended(mender)
    left = 0
    for index, _ in enumerate(mender.known):
        if not mender.is_bad(left | 1 << index):
            left = left | 1 << index
    return tuple([(spot, *mender.harm_of(left | 1 << index)) for index, spot in enumerate(mender.known)
                  if not left >> index & 1])


def clauses(chip):
    """The tuple of all clauses, shorter ones first, then ascending."""
    mender = _small_mender(chip)
    return _told(mender, mender.least_bad())


def fewest(chip):
    """The first set of those with the fewest spots that mend a chip."""
    mender = _small_mender(chip)
    _check_mended(mender)
    return _told(mender, least_covers(mender.least_bad()))[0]


def mend_paper(chip):
    """(sets, clauses): what shows somebody who does not trust this which spots mend a chip."""
    mender = _small_mender(chip)
    masks = mender.least_bad()
    sets = [(row, mender.tables_of(mender.every_bit & ~mender.bits_of(row)))
            for row in _told(mender, least_covers(masks))]
    return (tuple(sets), tuple([(row, *mender.harm_of(mender.bits_of(row))) for row in _told(mender, masks)]))


def lets_mends(chip, thing):
    """Whether any value is a right paper about which spots mend a chip."""
    known = spot_row(chip)
    if not is_tuple(thing, 2) or not _are_rows(known, thing[0], 2) or not _are_rows(known, thing[1], 3):
        return False
    mender = Mender(chip, known)
    sets = [mender.bits_of(row[0]) for row in thing[0]]
    told = [mender.bits_of(row[0]) for row in thing[1]]
    if not within_none(sets) or not within_none(told) or not are_dual(sets, told, len(known)):
        return False
    return (all([mender.shows_safe(mender.every_bit & ~mender.bits_of(row), tables) for row, tables in thing[0]])
            and all([mender.shows_bad(mender.bits_of(row), question, events) for row, question, events in thing[1]]))


def _small_mender(chip):
    """The mender of a chip. Raises TooMany if there are more spots than sets of them can be gone through."""
    known = spot_row(chip)
    if len(known) > MOST_SPOTS:
        raise TooMany(MOST_SPOTS)
    return Mender(chip, known)


def _check_mended(mender):
    """Raises NotSafe if all spots together do not mend the chip."""
    if mender.is_bad(0):
        question, events = mender.harm_of(0)
        raise NotSafe(question, events)


def _told(mender, masks):
    """The tuple of these sets of spots, shorter ones first, then ascending."""
    return tuple(sorted([mender.spots_in(mask) for mask in masks], key=lambda row: (len(row), row)))


def _are_rows(known, value, count):
    """Whether any value is a tuple of tuples of so many, each with an ascending tuple of spots as its first item, in
    the order of a paper."""
    if not isinstance(value, tuple) or not all([is_tuple(row, count) and _are_spots(known, row[0]) for row in value]):
        return False
    return is_ascending([(len(row[0]), row[0]) for row in value])


def _are_spots(known, value):
    """Whether any value is an ascending tuple of these spots."""
    return isinstance(value, tuple) and all([is_spot(known, spot) for spot in value]) and is_ascending(value)
