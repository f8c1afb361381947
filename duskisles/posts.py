"""Own states of a keeper, tuples (phase, count, clock, shut, away), and how its events change them."""

from duskisles.names import is_integer

FIRST_OWN = ("up", 0, True, False, False)

# The row out of which turns lead in a phase; there are none out of the other phases.
TURNS_OUT = {"falling": "sleep", "waking": "wake"}

# The index in the three flags that a word sets, and the value.
SETS = {
    "still": (0, False),
    "go": (0, True),
    "shut": (1, True),
    "open": (1, False),
    "dark": (2, True),
    "lit": (2, False),
}


def is_keeper_event(isle, value):
    """Whether any value is a deed of the isle or one of its turns."""
    if not isinstance(value, tuple) or not 2 <= len(value) <= 3 or value[1] != isle.name:
        return False
    if value[0] == "deed":
        return len(value) == 2
    return value[0] == "turn" and len(value) == 3 and is_turn_index(isle, value[2])


def is_turn_index(isle, value):
    """Whether any value is the index of a turn of the isle."""
    return is_integer(value) and 0 <= value < len(isle.turns)


def keeper_options(isle, own):
    """The tuple of the events that can be next: the deed, then the turns out of this post."""
    begin = (TURNS_OUT.get(own[0]), own[1])
    turns = [("turn", isle.name, index) for index, turn in enumerate(isle.turns) if turn[:2] == begin]
    return (("deed", isle.name), *turns)


def next_word(isle, own):
    """The word of the next deed."""
    return _row(isle, own)[own[1]]


def behind_event(isle, own, event):
    """The own state behind an event that can be next."""
    if event[0] == "deed":
        return _behind_deed(isle, own)
    row, _, end = isle.turns[event[2]]
    return ("waking" if row == "sleep" else "falling", end, *own[2:])


def _behind_deed(isle, own):
    """The own state behind the next deed."""
    count = own[1] + 1
    asleep = own[0] in ("up", "falling")
    flags = list(own[2:])
    word = next_word(isle, own)
    if word in SETS:
        index, value = SETS[word]
        flags[index] = value
    if count == len(_row(isle, own)):
        return ("asleep" if asleep else "up", 0, *flags)
    return ("falling" if asleep else "waking", count, *flags)


def _row(isle, own):
    """The row of which the next deed is one."""
    return isle.sleep if own[0] in ("up", "falling") else isle.wake
