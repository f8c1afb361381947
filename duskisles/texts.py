"""Texts of chips and of runs."""

from duskisles.chips import Chip
from duskisles.errors import InvalidText
from duskisles.eventwords import event_of_word, word_of_event


def write_chip(chip):
    """The text of a chip."""
    return str(chip)


def read_chip(text):
    """The chip of a text, any value."""
    return Chip.read(text)


def write_events(events):
    """The text of a run, a list or tuple of events."""
    return " ".join([word_of_event(event) for event in events]) if events else "-"


def read_events(text):
    """The list of the events of the text of a run, any value."""
    if not isinstance(text, str):
        raise InvalidText(0, 0)
    words = text.split(" ")
    if words[0] == "-":
        if len(words) > 1:
            raise InvalidText(0, 1)
        return []
    events = [event_of_word(word) for word in words]
    if None in events:
        raise InvalidText(0, events.index(None))
    return events
