"""Events as words."""

from duskisles.names import is_name, is_own_name

TURN_DIGITS = ("0", "1", "2", "3", "4", "5")


def word_of_event(event):
    """The word of an event."""
    if event[0] == "turn":
        return f"{event[1]}/{event[2]}"
    return f"{event[1]}+" if event[0] == "tick" else event[1]


def event_of_word(word):
    """The event that a word tells, or None."""
    if is_own_name(word):
        return ("deed", word)
    if word.endswith("+") and is_name(word[:-1]):
        return ("tick", word[:-1])
    name, _, digit = word.partition("/")
    if is_own_name(name) and digit in TURN_DIGITS:
        return ("turn", name, int(digit))
    return None
