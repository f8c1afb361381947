"""Questions of a chip, and what is bad in a state."""

from duskisles.errors import NoQuestion
from duskisles.moves import away_mask, driver_mark, shut_mask


def check_question(chip, value):
    """Raises NoQuestion if any value is not a question of the chip."""
    if value not in chip.questions:
        raise NoQuestion(value)


def isle_faults(clock, marks, dark):
    """The words of the bad moments of an isle with this clock and these marks, if it is dark or not."""
    if not clock:
        return []
    words = []
    if dark:
        words.append("lost")
    if "dust" in marks[:2]:
        words.append("own")
    if marks[0] == "older":
        words.append("older")
    return words


def faults_of(plan, state):
    """The ascending tuple of the bad moments of a state."""
    isles, held = state
    dark = plan.dark_mask(away_mask(isles))
    moments = []
    for index, isle in enumerate(plan.isle_row):
        row = isles[index]
        moments.extend([(word, isle.name) for word in isle_faults(row[2], row[5:], dark >> index & 1)])
    shut = shut_mask(isles)
    for track in plan.tracks:
        if _ends_badly(plan, state, track, dark, shut):
            moments.append(("wire", track.wire_name))
    return tuple(sorted(moments))


def is_bad_at(plan, state, question):
    """Whether a question is bad in a state."""
    isles = state[0]
    dark = plan.dark_mask(away_mask(isles))
    if question[0] == "wire":
        return _ends_badly(plan, state, plan.track_of_wire(question[1]), dark, shut_mask(isles))
    index = plan.index_of[question[1]]
    return len(isle_faults(isles[index][2], isles[index][5:], dark >> index & 1)) > 0


def reader_listens(plan, isles, track):
    """Whether the reader of a track is the shore, or its clock is on."""
    return track.to_place == "shore" or isles[plan.index_of[track.to_place]][2]


def _ends_badly(plan, state, track, dark, shut):
    """Whether the reader of a track listens and what comes to it is not clean, if these isles are dark and shut."""
    isles, held = state
    if not reader_listens(plan, isles, track):
        return False
    return track.end_mark(driver_mark(plan, isles, track, dark), dark, shut, track.held_in(held)) != "clean"
