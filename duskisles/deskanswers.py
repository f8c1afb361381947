"""What the desk answers to questions about a chip: texts, each in one line."""

from duskisles.cones import cone
from duskisles.errors import CannotSleep, NotSafe
from duskisles.hearing import hearing
from duskisles.judge import judged
from duskisles.mends import mending
from duskisles.needs import Sleepers, sleepless
from duskisles.orders import Orders
from duskisles.props import spot_row
from duskisles.rests import sleepers
from duskisles.shortest import shortest
from duskisles.texts import write_chip, write_events
from duskisles.verdict import verdict


def moments_text(moments):
    """Bad moments, or pairs of words."""
    return ", ".join([" ".join(moment) for moment in moments]) if moments else "-"


def tell_chip(chip, given):
    """The text of the chip in one line."""
    return " / ".join(write_chip(chip).split("\n"))


def tell_verdict(chip, given):
    """Whether the chip is safe, or the first question that is bad."""
    found = verdict(chip)
    return "safe" if found[0] == "safe" else " ".join(["bad", *found[1]])


def tell_judged(chip, given):
    """How many rows of a question come, or a run at whose end it is bad."""
    word, found = judged(chip, tuple(given))
    return f"safe {len(found)}" if word == "safe" else f"bad {write_events(found)}"


def tell_shortest(chip, given):
    """The shortest run at whose end a question is bad."""
    found = shortest(chip, tuple(given))
    return "safe" if found is None else write_events(found)


def tell_cone(chip, given):
    """The isles of the cone of a question."""
    return _words_text(cone(chip, tuple(given)))


def tell_sleepless(chip, given):
    """The isles that never sleep."""
    return _words_text(sleepless(chip))


def tell_together(chip, given):
    """Whether these isles and no others can be asleep together."""
    try:
        Sleepers.of(chip, given)
    except CannotSleep:
        return "no"
    return "yes"


def tell_pairs(chip, given):
    """The pairs of words that the safe orders of an isle are those to keep."""
    orders = Orders(chip, given[0])
    return "none" if len(orders) == 0 else moments_text(orders.pairs)


def tell_spots(chip, given):
    """All spots."""
    return _words_text([_spot_word(spot) for spot in spot_row(chip)])


def tell_mending(chip, given):
    """Spots that mend the chip."""
    try:
        return _words_text([_spot_word(row[0]) for row in mending(chip)])
    except NotSafe:
        return "never"


def tell_sleepers(chip, given):
    """Isles that may be switched off if all others rest."""
    return _words_text(sleepers(chip)[0])


def tell_heard(chip, given):
    """Whether a wire is always heard, or a run at whose end it is not."""
    word, found = hearing(chip, given[0])
    return word if word == "always" else write_events(found)


ANSWERS = {
    "show": tell_chip,
    "verdict": tell_verdict,
    "ask": tell_judged,
    "fewest": tell_shortest,
    "cone": tell_cone,
    "sleepless": tell_sleepless,
    "together": tell_together,
    "pairs": tell_pairs,
    "spots": tell_spots,
    "mend": tell_mending,
    "sleepers": tell_sleepers,
    "heard": tell_heard,
}


def answer_to(chip, command, given):
    """The answer to a command about a chip."""
    action = ANSWERS[command]
    return action(chip, given)


def _words_text(words):
    """Words in one line."""
    return " ".join(words) if words else "-"


def _spot_word(spot):
    """The word of a spot."""
    kind, name, *indexes = spot
    if kind == "leash":
        return f"{name}:{indexes[0]}"
    return ".".join([name, *[str(index) for index in indexes]])
