"""How events change the posts, flags and marks of a chip; which come is asked of a plan of the chip."""

from duskisles.posts import FIRST_OWN, behind_event, is_keeper_event, keeper_options, next_word
from duskisles.tracks import begin_mark

FIRST_MARKS = ("clean", "clean", "same")

# What a save makes of the shadow, and what back makes of the kept registers.
SAVED = {"clean": "same", "older": "older", "dust": "dust"}
BROUGHT = {"same": "clean", "older": "older", "dust": "dust"}


def is_event(chip, value):
    """Whether any value is an event of the chip."""
    if not isinstance(value, tuple) or not 2 <= len(value) <= 3:
        return False
    if value[0] == "tick":
        return len(value) == 2 and (value[1] == "shore" or value[1] in chip)
    return value[1] in chip and is_keeper_event(chip[value[1]], value)


def first_state(plan):
    """The state without events."""
    return (tuple([(*FIRST_OWN, *FIRST_MARKS) for _ in plan.isle_row]),
            tuple(["open" for track in plan.tracks for _ in range(track.holders)]))


def can_come(plan, isles, event):
    """Whether an event of the chip can come where these tuples begin with posts and flags."""
    if event[1] == "shore":
        return True
    index = plan.index_of[event[1]]
    if event[0] == "tick":
        return isles[index][2]
    if event[0] == "turn":
        return event in keeper_options(plan.isle_row[index], isles[index])
    return deed_can_come(plan, isles, index)


def deed_can_come(plan, isles, index):
    """Whether the next deed of the isle with this index can come."""
    phase = isles[index][0]
    if phase == "up":
        if not plan.isle_row[index].sleeps:
            return False
        return all([isles[other][0] == "asleep" for other in plan.needing_rows[index]])
    if phase == "asleep":
        return all([isles[other][0] == "up" for other in plan.need_rows[index]])
    return True


def events_at(plan, isles):
    """The list of the events that can come where these tuples begin with posts and flags."""
    events = []
    for index, isle in enumerate(plan.isle_row):
        # A deed is forbidden only out of up and asleep, and there are no turns out of these.
        if deed_can_come(plan, isles, index):
            events.extend(list(keeper_options(isle, isles[index])))
        if isles[index][2]:
            events.append(("tick", isle.name))
    events.append(("tick", "shore"))
    return events


def state_behind(plan, state, event):
    """The state behind an event that can come."""
    isles, held = state
    at = plan.index_of.get(event[1])
    rows = list(isles)
    if event[0] != "tick":
        rows[at] = (*behind_event(plan.isle_row[at], isles[at][:5], event), *isles[at][5:])
    word = word_of(plan, isles, event)
    dark = plan.dark_mask(away_mask(rows))
    became = 1 << at if word == "shut" and not isles[at][3] else 0
    if dark:
        rows = [_marked(plan, index, row, word if index == at else None, dark) for index, row in enumerate(rows)]
    elif word is not None and at is not None:
        rows[at] = _marked(plan, at, rows[at], word, dark)
    marked = tuple(rows)
    return (marked, held_behind(plan, marked, held, dark, became) if held else ())


def word_of(plan, isles, event):
    """What an event does: the word of a deed, "tick", or None for a turn."""
    if event[0] == "deed":
        index = plan.index_of[event[1]]
        return next_word(plan.isle_row[index], isles[index])
    return "tick" if event[0] == "tick" else None


def away_mask(isles):
    """The isles that are away."""
    return sum([1 << index for index, row in enumerate(isles) if row[4]])


def shut_mask(isles):
    """The isles that are shut."""
    return sum([1 << index for index, row in enumerate(isles) if row[3]])


def marks_behind(isle, marks, word, dark, dusty):
    """The marks (kept, plain, shadow) of an isle behind an event that does this to it (None: nothing), if it is dark
    behind it and its leash is dusty."""
    kept, plain, shadow = marks
    if dark:
        shadow = "dust" if word == "save" else shadow
        kept = plain = "dust"
    elif word == "save":
        shadow = SAVED[kept]
    elif word == "reset":
        plain = "clean"
    elif word == "back":
        kept = BROUGHT[shadow]
    elif word == "tick" and shadow == "same":
        shadow = "older"
    if dusty:
        shadow = "dust"
    return (kept if isle.kept else "clean", plain if isle.plain else "clean", shadow if isle.kept else "same")


def driver_mark(plan, isles, track, dark):
    """The mark behind the driver of a track."""
    if track.from_place == "shore":
        return "clean"
    index = plan.index_of[track.from_place]
    return begin_mark(isles[index][5], isles[index][6], dark >> index & 1)


def held_behind(plan, isles, held, dark, became):
    """The tuple of the held marks behind an event by which the isles `became` became shut."""
    shut = shut_mask(isles)
    marks = []
    for track in plan.tracks:
        if track.holders:
            mark = driver_mark(plan, isles, track, dark)
            marks.extend(track.held_behind(mark, dark, shut, became, track.held_in(held)))
    return tuple(marks)


def _marked(plan, index, row, word, dark):
    """The tuple of an isle in a state with its marks behind an event."""
    is_dark = dark >> index & 1
    if word is None and not is_dark:
        return row
    marks = marks_behind(plan.isle_row[index], row[5:], word, is_dark, dark & plan.leash_masks[index])
    return (*row[:5], *marks)
