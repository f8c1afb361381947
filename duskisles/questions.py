"""Questions of a chip, and what is bad in a state."""

from duskisles.errors import NoQuestion
from duskisles.moves import away_mask, driver_mark, shut_mask


def check_question(chip, value):
    """Raises NoQuestion if any value is not a question of the chip."""
    if value not in chip.questions:
        raise NoQuestion(value)


def isle_faults(clock, marks, dark):
    """The words of the bad moments of an isle with this clock and these marks, if it is dark or not."""
    if not clock:
        return []
    words = []
    if dark:
        words.append("lost")
    if "dust" in marks[:2]:
        words.append("own")
    if marks[0] == "older":
        words.append("older")
    return words


def faults_of(plan, state):
    """The ascending tuple of the bad moments of a state."""
    isles, held = state
    dark = plan.dark_mask(away_mask(isles))
    moments = []
    for index, isle in enumerate(plan.isle_row):
        row = isles[index]
        moments.extend([(word, isle.name) for word in isle_faults(row[2], row[5:], dark >> index & 1)])
    shut = shut_mask(isles)
    for track in plan.tracks:
        if reader_listens(plan, isles, track):
            mark = driver_mark(plan, isles, track, dark)
            if track.end_mark(mark, dark, shut, track.held_in(held)) != "clean":
                moments.append(("wire", track.wire_name))
    return tuple(sorted(moments))


def reader_listens(plan, isles, track):
    """Whether the reader of a track is the shore, or its clock is on."""
    return track.to_place == "shore" or isles[plan.index_of[track.to_place]][2]


def is_moment_of(question, moment):
    """Whether a bad moment is one for which a question asks."""
    return question[1] == moment[1] and (question[0] == "wire") == (moment[0] == "wire")
