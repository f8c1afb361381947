"""Lines that the desk is told: commands, and what their words must be."""

from duskisles.errors import InvalidText, UnknownCommand
from duskisles.eventwords import event_of_word
from duskisles.names import is_own_name

# For each command the kinds of its words, and the kind of one or more words behind these, if there are such.
FORMS = {
    "show": ((), None),
    "rest": ((), "name"),
    "rouse": ((), "name"),
    "undo": ((), None),
    "redo": ((), None),
    "prop": ((), "spot"),
    "do": ((), "event"),
    "back": (("count",), None),
    "post": (("name",), None),
    "verdict": ((), None),
    "ask": (("kind", "name"), None),
    "fewest": (("kind", "name"), None),
    "cone": (("kind", "name"), None),
    "sleepless": ((), None),
    "together": ((), "name"),
    "pairs": (("name",), None),
    "spots": ((), None),
    "mend": ((), None),
    "sleepers": ((), None),
    "heard": (("name",), None),
}
DIGITS = ("0", "1", "2", "3", "4", "5", "6", "7", "8", "9")


def read_line(line):
    """(command, values) of a line, any value: a list of what its words tell; for `load` that of the lines of a chip."""
    if not isinstance(line, str):
        raise UnknownCommand()
    command, *words = line.split(" ")
    if command == "load" and words:
        return (command, " ".join(words).split(" / "))
    if command not in FORMS:
        raise UnknownCommand()
    kinds, more = FORMS[command]
    if more is not None:
        kinds = (more,) * max(1, len(words))
    if len(words) != len(kinds):
        raise UnknownCommand()
    values = [_value_of(kind, word) for kind, word in zip(kinds, words)]
    if None in values:
        # The command itself is the word 0.
        raise InvalidText(0, values.index(None) + 1)
    return (command, values)


def _value_of(kind, word):
    """What a word tells that must be of this kind, or None if it is not."""
    if kind == "event":
        return event_of_word(word)
    if kind == "spot":
        return _spot_of(word)
    if kind == "count":
        return int(word) if word.isdigit() and word[0] != "0" and len(word) <= 2 else None
    fits = word in ("isle", "wire") if kind == "kind" else is_own_name(word)
    return word if fits else None


def _spot_of(word):
    """The spot that a word tells, or None."""
    if ":" in word:
        name, *digits = word.split(":")
        kind = "leash" if len(digits) == 1 else None
    else:
        name, *digits = word.split(".")
        kind = "station" if len(digits) == 1 else "line" if len(digits) == 2 else None
    if kind is None or not is_own_name(name) or not all([digit in DIGITS for digit in digits]):
        return None
    return (kind, name, *[int(digit) for digit in digits])
