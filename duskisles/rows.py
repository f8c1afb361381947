"""The two rows of an isle with their words in any order, and pairs of words of which one stands ahead of the other."""

from duskisles.forms import is_tuple
from duskisles.names import is_words

# All pairs of words of which an isle may want the first one ahead of the second one, ascending.
WORD_PAIRS = (
    ("back", "go"), ("back", "open"), ("lit", "back"), ("lit", "go"), ("lit", "open"), ("lit", "reset"),
    ("reset", "go"), ("reset", "open"), ("save", "dark"), ("shut", "dark"), ("still", "dark"), ("still", "save"),
)


def candidates_of(isle):
    """The ascending tuple of the pairs whose words both stand in the rows of an isle."""
    words = [*isle.sleep, *isle.wake]
    return tuple([pair for pair in WORD_PAIRS if pair[0] in words and pair[1] in words])


def is_order(isle, value):
    """Whether any value is an order of an isle."""
    return is_tuple(value, 2) and is_arranged(value[0], isle.sleep) and is_arranged(value[1], isle.wake)


def is_arranged(value, words):
    """Whether any value is a tuple of these words, each once."""
    return is_words(value, words) and len(value) == len(words)


def keeps(order, pair):
    """Whether the first word of a pair stands ahead of the second one; both stand in a row of the order."""
    row = order[0] if pair[0] in order[0] else order[1]
    return row.index(pair[0]) < row.index(pair[1])


def keeps_all(order, pairs):
    """Whether an order keeps all of these pairs."""
    return all([keeps(order, pair) for pair in pairs])


def follows(pair, pairs):
    """Whether a pair follows from others of these, over one or more words between. No pairs lead in a ring."""
    begin, end = pair
    ahead = [second for first, second in pairs if first == begin and second != end]
    while ahead:
        word = ahead.pop()
        if word == end:
            return True
        ahead.extend([second for first, second in pairs if first == word])
    return False


def orders_with(isle, kept, broken):
    """The ascending list of the orders of an isle that keep the one pairs and break the others."""
    pairs = [*kept, *[(second, first) for first, second in broken]]
    wakes = _arranged(isle.wake, pairs)
    return [(sleep, wake) for sleep in _arranged(isle.sleep, pairs) for wake in wakes]


def _arranged(words, pairs):
    """The ascending list of the tuples of these words, each once, that keep these pairs as far as they have them."""
    if len(words) == 0:
        return [()]
    rows = []
    for word in sorted(words):
        if word not in [second for first, second in pairs if first in words]:
            left = [other for other in words if other != word]
            rows.extend([(word, *row) for row in _arranged(left, pairs)])
    return rows
