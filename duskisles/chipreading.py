"""Reading the text of a chip: the form of its lines, and the isles and wires that they tell."""

from duskisles.errors import InvalidText
from duskisles.isles import Isle
from duskisles.names import is_name, is_own_name
from duskisles.stations import Clamp, Holding, Pass
from duskisles.wires import Wire

MOST_TURNS = 6
MOST_STATIONS = 5
ISLE_LINES = ("isle", "leash", "needs", "rests", "sleep", "wake", "turn")
STATION_LINES = ("pass", "clamp", "hold")
BEGINS = ("shore", "isle", "wire")
# The places of the lines of an isle, which ascend.
PLACES = {"isle": 0, "leash": 1, "needs": 2, "rests": 3, "sleep": 4, "wake": 5, "turn": 6}

# For each line: the kinds of the words behind its first one, the kind of those that follow these, and how many of
# them there are at least and at most. Kinds are those that _fits tells.
FORMS = {
    "shore": (("number",), None, 0, 0),
    "isle": (("new", "amount", "amount"), None, 0, 0),
    "leash": (("same",), "name", 1, 4),
    "needs": (("same",), "name", 1, 7),
    "rests": (("same",), None, 0, 0),
    "sleep": (("same",), "sleep", 1, 4),
    "wake": (("same",), "wake", 1, 5),
    "turn": (("same", "row", "digit", "digit"), None, 0, 0),
    "wire": (("new", "name", "name"), None, 0, 0),
    "pass": (("same", "name"), None, 0, 0),
    "clamp": (("same", "name", "name", "bit"), "name", 0, 4),
    "hold": (("same", "name", "name"), "name", 0, 4),
}
CHOICES = {
    "number": ("1", "2", "3"),
    "amount": ("0", "1", "2", "3"),
    "bit": ("0", "1"),
    "digit": ("0", "1", "2", "3", "4", "5", "6", "7", "8", "9"),
    "row": ("sleep", "wake"),
    "sleep": ("still", "shut", "save", "dark"),
    "wake": ("lit", "reset", "back", "open", "go"),
}


def read_parts(text):
    """(isles, wires, shore) of the text of a chip, any value; raises InvalidText, and what a wrong isle, station or
    wire raises."""
    if not isinstance(text, str):
        raise InvalidText(0, 0)
    return parts_of(text.split("\n"))


def parts_of(lines):
    """(isles, wires, shore), two lists and a number, of the lines of a chip; raises as `read_parts`."""
    groups = _groups(lines)
    isles = [_isle(group) for group in groups if group[0][0] == "isle"]
    wires = [_wire(group) for group in groups if group[0][0] == "wire"]
    return isles, wires, int(groups[0][0][1])


def _groups(lines):
    """The lines, as lists of words, in groups: the one of the shore, then those of each isle and each wire."""
    groups = []
    # Words that were found to be names; most of them come again.
    known = {}
    for row, line in enumerate(lines):
        words = line.split(" ")
        # What is plainly right, as most lines are, is not looked at word by word.
        if not groups or not _is_plain(words, groups[-1], known):
            wrong = _wrong_word(words, groups)
            if wrong is not None:
                raise InvalidText(row, wrong)
        if words[0] in BEGINS:
            groups.append([words])
        else:
            groups[-1].append(words)
    if len(groups) == 1:
        raise InvalidText(1, 0)
    return groups


def _is_plain(words, group, known):
    """Whether it is plain that a line can stand behind this group of lines, the last one; many that can are not."""
    first = words[0]
    begin = group[0][0]
    if first not in FORMS or first == "shore" or begin == "shore" and first != "isle":
        return False
    slots, _, least, most = FORMS[first]
    if not len(slots) + least < len(words) <= len(slots) + most + 1:
        return False
    if first in STATION_LINES:
        if begin != "wire" or len(group) > MOST_STATIONS or words[1] != group[0][1]:
            return False
        return _are_names(words[2:], known) if first != "clamp" else _is_plain_clamp(words, known)
    if first == "wire":
        return is_own_name(words[1]) and _are_names(words[2:], known)
    if begin == "wire":
        return False
    if first == "isle":
        amounts = CHOICES["amount"]
        return is_own_name(words[1]) and words[2] in amounts and words[3] in amounts
    last = group[-1][0]
    # Of so few lines, at least one of them the isle's own, not too many can be turns.
    again = first == "turn" and last == "turn" and len(group) <= MOST_TURNS
    return words[1] == group[0][1] and (again or PLACES[first] > PLACES[last]) and _is_plain_part(words, known)


def _is_plain_clamp(words, known):
    """The same for the words of a clamp behind the first two, if they are as many as they may be."""
    return words[4] in CHOICES["bit"] and _are_names(words[2:4], known) and _are_names(words[5:], known)


def _is_plain_part(words, known):
    """The same for the words of a line that tells a part of an isle."""
    first = words[0]
    if first == "turn":
        return words[2] in CHOICES["row"] and words[3] in CHOICES["digit"] and words[4] in CHOICES["digit"]
    if first in CHOICES:
        choices = CHOICES[first]
        return all([word in choices for word in words[2:]])
    return _are_names(words[2:], known)


def _are_names(words, known):
    """Whether these words are names, of which `known` has those that were found already."""
    for word in words:
        if word not in known:
            if not is_name(word):
                return False
            known[word] = True
    return True


def _wrong_word(words, groups):
    """The index of the word at which a line cannot go on behind the groups, or None."""
    if words[0] not in _followers(groups):
        return 0
    slots, tail, least, most = FORMS[words[0]]
    kinds = [*slots, *[tail for _ in range(most)]]
    for index, word in enumerate(words[1:]):
        if index >= len(kinds) or not _fits(kinds[index], word, groups):
            return index + 1
    # A line that breaks off is wrong where its next word would be.
    return len(words) if len(words) <= len(slots) + least else None


def _followers(groups):
    """The first words of the lines that can stand behind the groups."""
    if not groups:
        return ("shore",)
    group = groups[-1]
    last = group[-1][0]
    if last == "shore":
        return ("isle",)
    if last in ISLE_LINES:
        turns = [words for words in group if words[0] == "turn"]
        again = ("turn",) if len(turns) < MOST_TURNS else ()
        return ("isle", "wire", *again, *ISLE_LINES[ISLE_LINES.index(last) + 1:])
    # The line of the wire itself is one of the group.
    return ("wire", *STATION_LINES) if len(group) <= MOST_STATIONS else ("wire",)


def _fits(kind, word, groups):
    """Whether a word is of a kind, in a line behind the groups."""
    if kind == "same":
        return word == groups[-1][0][1]
    if kind == "new":
        return is_own_name(word)
    if kind == "name":
        return is_name(word)
    return word in CHOICES[kind]


def _isle(group):
    """The isle of a group of lines."""
    _, name, kept, plain = group[0]
    parts = {"name": name, "kept": int(kept), "plain": int(plain)}
    turns = []
    for kind, _, *words in group[1:]:
        if kind == "turn":
            turns.append((words[0], int(words[1]), int(words[2])))
        elif kind == "rests":
            parts["sleeps"] = False
        else:
            parts[kind] = tuple(words)
    parts["turns"] = tuple(turns)
    return Isle(**parts)


def _wire(group):
    """The wire of a group of lines."""
    _, name, driver, reader = group[0]
    return Wire.of(name, driver, reader, [_station(words) for words in group[1:]])


def _station(words):
    """The station of a line."""
    if words[0] == "pass":
        return Pass(words[2])
    if words[0] == "clamp":
        return Clamp(words[2], words[3], gives=int(words[4]), line=tuple(words[5:]))
    return Holding(words[2], words[3], line=tuple(words[4:]))
