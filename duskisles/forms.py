"""Whether any values have a form, their kinds too: True is not 1, and a list is not a tuple."""

from duskisles.names import is_integer

KEPT_MARKS = ("clean", "older", "dust")
PLAIN_MARKS = ("clean", "dust")
SHADOW_MARKS = ("same", "older", "dust")


def is_tuple(value, count):
    """Whether any value is a tuple of so many."""
    return isinstance(value, tuple) and len(value) == count


def is_ascending(rows):
    """Whether a tuple or list of what can be compared is ascending, without duplicates."""
    return all([row < other for row, other in zip(rows, rows[1:])])


def are_marks(isle, value):
    """Whether any value is a tuple of marks (kept, plain, shadow) that an isle can have."""
    if not is_tuple(value, 3):
        return False
    kept, plain, shadow = value
    return (kept in (KEPT_MARKS if isle.kept else ("clean",)) and plain in (PLAIN_MARKS if isle.plain else ("clean",))
            and shadow in (SHADOW_MARKS if isle.kept else ("same",)))


def are_held(value, shut):
    """Whether any value is a tuple of held marks, if the owners of the holding clamps are shut or not as this list of
    truths tells."""
    if not is_tuple(value, len(shut)):
        return False
    return all([mark in (KEPT_MARKS if is_shut else ("open",)) for mark, is_shut in zip(value, shut)])


def is_state(plan, value):
    """Whether any value is a state of a chip, be it one that comes or not."""
    if not is_tuple(value, 2) or not is_tuple(value[0], len(plan.isle_row)):
        return False
    isles, held = value
    if not all([_is_isle_state(isle, row) for isle, row in zip(plan.isle_row, isles)]):
        return False
    shut = sum([1 << index for index, row in enumerate(isles) if row[3]])
    return are_held(held, [shut & stop[2] > 0 for track in plan.tracks for stop in track.stops if stop[4]])


def are_stands(value, known):
    """Whether any value is a tuple that has for each of these dicts one of its keys, which are stands."""
    if not is_tuple(value, len(known)):
        return False
    for stand, some in zip(value, known):
        if not _is_stand(stand, some):
            return False
    return True


def _is_isle_state(isle, value):
    """Whether any value is what a state tells of an isle."""
    if not is_tuple(value, 8) or not all([isinstance(flag, bool) for flag in value[2:5]]):
        return False
    return _is_post(isle, value[0], value[1]) and are_marks(isle, value[5:])


def _is_post(isle, phase, count):
    """Whether any values are phase and count of a post of an isle."""
    if not is_integer(count) or count < 0:
        return False
    if phase == "falling":
        return count < len(isle.sleep)
    if phase == "waking":
        return count < len(isle.wake)
    return phase in ("up", "asleep") and count == 0


def _is_stand(value, some):
    """Whether any value is a key of a dict whose keys are stands."""
    if not is_tuple(value, 5) or not isinstance(value[0], str) or not is_integer(value[1]):
        return False
    for flag in value[2:]:
        if flag is not None and flag is not True and flag is not False:
            return False
    return value in some
