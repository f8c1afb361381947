"""Reading the text of a chip: the form of its lines, and the isles and wires that they tell."""

from duskisles.errors import InvalidText
from duskisles.isles import Isle
from duskisles.names import is_name, is_own_name
from duskisles.stations import Clamp, Holding, Pass
from duskisles.wires import Wire

MOST_TURNS = 6
MOST_STATIONS = 5
ISLE_LINES = ("isle", "leash", "needs", "rests", "sleep", "wake", "turn")
STATION_LINES = ("pass", "clamp", "hold")

# For each line: the kinds of the words behind its first one, the kind of those that follow these, and how many of
# them there are at least and at most. Kinds are those that _fits tells.
FORMS = {
    "shore": (("number",), None, 0, 0),
    "isle": (("new", "amount", "amount"), None, 0, 0),
    "leash": (("same",), "name", 1, 4),
    "needs": (("same",), "name", 1, 7),
    "rests": (("same",), None, 0, 0),
    "sleep": (("same",), "sleep", 1, 4),
    "wake": (("same",), "wake", 1, 5),
    "turn": (("same", "row", "digit", "digit"), None, 0, 0),
    "wire": (("new", "name", "name"), None, 0, 0),
    "pass": (("same", "name"), None, 0, 0),
    "clamp": (("same", "name", "name", "bit"), "name", 0, 4),
    "hold": (("same", "name", "name"), "name", 0, 4),
}
CHOICES = {
    "number": ("1", "2", "3"),
    "amount": ("0", "1", "2", "3"),
    "bit": ("0", "1"),
    "digit": ("0", "1", "2", "3", "4", "5", "6", "7", "8", "9"),
    "row": ("sleep", "wake"),
    "sleep": ("still", "shut", "save", "dark"),
    "wake": ("lit", "reset", "back", "open", "go"),
}


def read_parts(text):
    """(isles, wires, shore) of the text of a chip, any value; raises InvalidText, and what a wrong isle, station or
    wire raises."""
    if not isinstance(text, str):
        raise InvalidText(0, 0)
    return parts_of(text.split("\n"))


def parts_of(lines):
    """(isles, wires, shore), two lists and a number, of the lines of a chip; raises as `read_parts`."""
    groups = _groups(lines)
    isles = [_isle(group) for group in groups if group[0][0] == "isle"]
    wires = [_wire(group) for group in groups if group[0][0] == "wire"]
    return isles, wires, int(groups[0][0][1])


def _groups(lines):
    """The lines, as lists of words, in groups: the one of the shore, then those of each isle and each wire."""
    groups = []
    for row, line in enumerate(lines):
        words = line.split(" ")
        wrong = _wrong_word(words, groups)
        if wrong is not None:
            raise InvalidText(row, wrong)
        if words[0] in ("shore", "isle", "wire"):
            groups.append([words])
        else:
            groups[-1].append(words)
    if len(groups) == 1:
        raise InvalidText(1, 0)
    return groups


def _wrong_word(words, groups):
    """The index of the word at which a line cannot go on behind the groups, or None."""
    if words[0] not in _followers(groups):
        return 0
    slots, tail, least, most = FORMS[words[0]]
    kinds = [*slots, *[tail for _ in range(most)]]
    for index, word in enumerate(words[1:]):
        if index >= len(kinds) or not _fits(kinds[index], word, groups):
            return index + 1
    # A line that breaks off is wrong where its next word would be.
    return len(words) if len(words) <= len(slots) + least else None


def _followers(groups):
    """The first words of the lines that can stand behind the groups."""
    if not groups:
        return ("shore",)
    group = groups[-1]
    last = group[-1][0]
    if last == "shore":
        return ("isle",)
    if last in ISLE_LINES:
        turns = [words for words in group if words[0] == "turn"]
        again = ("turn",) if len(turns) < MOST_TURNS else ()
        return ("isle", "wire", *again, *ISLE_LINES[ISLE_LINES.index(last) + 1:])
    # The line of the wire itself is one of the group.
    return ("wire", *STATION_LINES) if len(group) <= MOST_STATIONS else ("wire",)


def _fits(kind, word, groups):
    """Whether a word is of a kind, in a line behind the groups."""
    if kind == "same":
        return word == groups[-1][0][1]
    if kind == "new":
        return is_own_name(word)
    if kind == "name":
        return is_name(word)
    return word in CHOICES[kind]


def _isle(group):
    """The isle of a group of lines."""
    _, name, kept, plain = group[0]
    parts = {"name": name, "kept": int(kept), "plain": int(plain)}
    turns = []
    for kind, _, *words in group[1:]:
        if kind == "turn":
            turns.append((words[0], int(words[1]), int(words[2])))
        elif kind == "rests":
            parts["sleeps"] = False
        else:
            parts[kind] = tuple(words)
    parts["turns"] = tuple(turns)
    return Isle(**parts)


def _wire(group):
    """The wire of a group of lines."""
    _, name, driver, reader = group[0]
    return Wire.of(name, driver, reader, [_station(words) for words in group[1:]])


def _station(words):
    """The station of a line."""
    kind, _, on, *rest = words
    if kind == "pass":
        return Pass(on)
    if kind == "clamp":
        owner, bit, *line = rest
        return Clamp(on, owner, gives=int(bit), line=tuple(line))
    owner, *line = rest
    return Holding(on, owner, line=tuple(line))
