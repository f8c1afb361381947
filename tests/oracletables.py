"""Points [16] to [18] told a second time, plainly and slowly: rows, next rows, faces. A row is played on the whole chip, of which
all that the question does not read stays as it is at first."""

import oracle
import oraclecones as cones
from duskisles.stations import Holding


def held_places(chip, question):
    if question[0] == "isle":
        return []
    return [(question[1], index) for index, station in enumerate(chip.wire(question[1]).stations) if isinstance(station, Holding)]


def first_row(chip, question):
    return (tuple(cones.first_stand(chip, question, name) for name in cones.cone(chip, question)),
            () if cones.full(chip, question) is None else ("clean", "clean", "same"), ("open",) * len(held_places(chip, question)))


def opened(chip, question, row):
    """The isles and held marks of a state that the row tells of."""
    isles, held = oracle.opened(chip, oracle.first(chip))
    for name, stand in zip(cones.cone(chip, question), row[0]):
        for field, worth in zip(("clock", "shut", "away"), stand[2:]):
            if worth is not None:
                isles[name][field] = worth
    if row[1]:
        for field, mark in zip(("kept", "plain", "shadow"), row[1]):
            isles[cones.full(chip, question)][field] = mark
    held.update(zip(held_places(chip, question), row[2]))
    return isles, held


def is_bad(chip, question, row):
    return oracle.is_bad(chip, oracle.closed(chip, *opened(chip, question, row)), question)


def lets(chip, question, row, name):
    """Whether [7] lets the keeper leave up or asleep, if it is there."""
    phases = {other: stand[0] for other, stand in zip(cones.cone(chip, question), row[0])}
    if "phase" not in cones.reads(chip, question, name):
        return True
    if phases[name] == "up":
        return all(phases[other] == "asleep" for other in phases if name in chip[other].needs)
    return phases[name] != "asleep" or all(phases[other] == "up" for other in chip[name].needs)


def behind(chip, question, row, name, stand, word):
    """The row behind an event of the isle, if it has this stand then."""
    names = cones.cone(chip, question)
    whole = cones.full(chip, question)
    before, _ = opened(chip, question, row)
    rows = tuple(stand if other == name else old for other, old in zip(names, row[0]))
    isles, held = opened(chip, question, (rows, row[1], row[2]))
    if whole is not None:
        marks = isles[whole]
        if name == whole and not oracle.is_dark(chip, isles, whole):
            oracle.lit_effect(marks, word)
        elif name == whole and word == "save":
            marks["shadow"] = "dust"
        if oracle.is_dark(chip, isles, whole):
            marks["kept"] = marks["plain"] = "dust"
        if oracle.is_dusty(chip, isles, chip[whole].leash):
            marks["shadow"] = "dust"
        if chip[whole].kept == 0:
            marks["kept"], marks["shadow"] = "clean", "same"
        if chip[whole].plain == 0:
            marks["plain"] = "clean"
    became = name if isles[name]["shut"] and not before[name]["shut"] else None
    oracle.hold(chip, isles, held, became)
    told = () if whole is None else tuple(isles[whole][field] for field in ("kept", "plain", "shadow"))
    return rows, told, tuple(held[at] for at in held_places(chip, question))


def next_rows(chip, question, row):
    found = set()
    whole = cones.full(chip, question)
    for name, stand in zip(cones.cone(chip, question), row[0]):
        if lets(chip, question, row, name):
            for member in cones.group(chip, question, name, stand):
                for silent, event, other in cones.moves(chip, question, name, member):
                    if not silent:
                        found.add(behind(chip, question, row, name, other, deed_word(chip, name, member, event)))
        if name == whole and stand[2]:
            found.add(behind(chip, question, row, name, stand, "tick"))
    return tuple(sorted(found))


def deed_word(chip, name, stand, event):
    if event[0] != "deed":
        return None
    return (chip[name].sleep if stand[0] in ("up", "falling") else chip[name].wake)[stand[1]]


def rows_by_steps(chip, question):
    level, told = [first_row(chip, question)], []
    while level:
        told += level
        fresh = {other for row in level if not is_bad(chip, question, row) for other in next_rows(chip, question, row)}
        level = sorted(fresh - set(told))
    return told


def sequences(chip, question, name, stand, length):
    """All sequences of labels of next stands, of at most this length, that can go out from a stand."""
    found = {()}
    if length:
        for other in cones.next_stands(chip, question, name, stand):
            label = cones.label(chip, question, name, other)
            found |= {(label, *rest) for rest in sequences(chip, question, name, other, length - 1)}
    return found


def face(chip, question, name, length=6):
    """The face, if sequences of this length tell all apart that can be told apart."""
    kinds = {}
    def kind(stand):
        sign = (cones.label(chip, question, name, stand), frozenset(sequences(chip, question, name, stand, length)))
        return kinds.setdefault(sign, len(kinds)), len(kinds)
    met = [cones.first_stand(chip, question, name)]
    kind(met[0])
    pairs = []
    for stand in met:
        indexes = []
        for other in sorted(cones.next_stands(chip, question, name, stand), key=lambda each: cones.label(chip, question, name, each)):
            many = len(kinds)
            indexes.append(kind(other)[0])
            if len(kinds) > many:
                met.append(other)
        pairs.append((cones.label(chip, question, name, stand), tuple(indexes)))
    return tuple(pairs)
