"""The two rows of an isle with their words in any order, and pairs of words of which one stands ahead of the other."""

from math import perm

from duskisles.forms import is_tuple
from duskisles.names import is_words

# All pairs of words of which an isle may want the first one ahead of the second one, ascending.
WORD_PAIRS = (
    ("back", "go"), ("back", "open"), ("lit", "back"), ("lit", "go"), ("lit", "open"), ("lit", "reset"),
    ("reset", "go"), ("reset", "open"), ("save", "dark"), ("shut", "dark"), ("still", "dark"), ("still", "save"),
)

# Those of them that follow from others, if the isle has the word between.
FOLLOWING = (("lit", "go"), ("lit", "open"), ("still", "dark"))


def candidates_of(isle):
    """The ascending tuple of the pairs whose words both stand in the rows of an isle."""
    words = [*isle.sleep, *isle.wake]
    return tuple([pair for pair in WORD_PAIRS if pair[0] in words and pair[1] in words])


def is_order(isle, value):
    """Whether any value is an order of an isle."""
    return is_tuple(value, 2) and is_arranged(value[0], isle.sleep) and is_arranged(value[1], isle.wake)


def is_arranged(value, words):
    """Whether any value is a tuple of these words, each once."""
    return is_words(value, words) and len(value) == len(words)


def keeps(order, pair):
    """Whether the first word of a pair stands ahead of the second one; both stand in a row of the order."""
    row = order[0] if pair[0] in order[0] else order[1]
    # What `in` of Orders runs must call no `index`, as errors hold an attribute of that name.
    place = 0
    while row[place] not in pair:
        place += 1
    return row[place] == pair[0]


def keeps_all(order, pairs):
    """Whether an order keeps all of these pairs."""
    return all([keeps(order, pair) for pair in pairs])


def follows(pair, pairs):
    """Whether a pair follows from others of these candidates: over one word between, as there are no longer ways."""
    return any([first == pair[0] and (second, pair[1]) in pairs for first, second in pairs])


def first_order(isle, pairs):
    """The first order of an isle, ascending, that keeps these pairs."""
    return (_first_row(isle.sleep, pairs), _first_row(isle.wake, pairs))


def swapped(order, pair, pairs):
    """An order that breaks a pair which does not follow from these pairs, and keeps all others of these, as the order
    that is passed does."""
    if pair[0] in order[0]:
        return (_swapped_row(order[0], pair, pairs), order[1])
    return (order[0], _swapped_row(order[1], pair, pairs))


def many_orders(isle, pairs):
    """How many orders of an isle keep these pairs."""
    return _many_rows(isle.sleep, pairs) * _many_rows(isle.wake, pairs)


def orders_with(isle, pairs):
    """The ascending list of the orders of an isle that keep these pairs."""
    wakes = _arranged(isle.wake, pairs)
    return [(sleep, wake) for sleep in _arranged(isle.sleep, pairs) for wake in wakes]


def broken(pair):
    """The pair that an order keeps which breaks this one."""
    return (pair[1], pair[0])


def _first_row(words, pairs):
    """The least tuple of these words, each once, that keeps these pairs as far as it has them."""
    left = sorted(words)
    row = []
    while left:
        behind = [second for first, second in pairs if first in left]
        row.append([word for word in left if word not in behind][0])
        left.remove(row[-1])
    return tuple(row)


def _swapped_row(row, pair, pairs):
    """A row in which the words of a pair have changed places, and those between them stand where they may."""
    begin = row.index(pair[0])
    end = row.index(pair[1])
    behind = [word for word in row[begin + 1:end] if (pair[0], word) in pairs]
    ahead = [word for word in row[begin + 1:end] if word not in behind]
    return (*row[:begin], *ahead, pair[1], pair[0], *behind, *row[end + 1:])


def _many_rows(words, pairs):
    """How many tuples of these words, each once, keep these pairs as far as they have them."""
    tied = [word for word in words if any([word in pair for pair in pairs])]
    # The others may stand anywhere.
    return perm(len(words), len(words) - len(tied)) * _many_tied(tied, pairs)


def _many_tied(words, pairs):
    """The same, word by word."""
    if len(words) < 2:
        return 1
    behind = [second for first, second in pairs if first in words]
    return sum([_many_tied([other for other in words if other != word], pairs) for word in words if word not in behind])


def _arranged(words, pairs):
    """The ascending list of the tuples of these words, each once, that keep these pairs as far as they have them."""
    if len(words) == 0:
        return [()]
    rows = []
    behind = [second for first, second in pairs if first in words]
    for word in sorted(words):
        if word not in behind:
            left = [other for other in words if other != word]
            rows.extend([(word, *row) for row in _arranged(left, pairs)])
    return rows
