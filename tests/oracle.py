"""The document's points [6] to [12] told a second time, plainly and slowly, to compare the program with. A state is taken apart
into dicts by names; nothing of the package is used but the classes of chips."""

from duskisles.stations import Clamp, Holding

SET = {"still": ("clock", False), "go": ("clock", True), "shut": ("shut", True), "open": ("shut", False),
       "dark": ("away", True), "lit": ("away", False)}
FIELDS = ("phase", "count", "clock", "shut", "away", "kept", "plain", "shadow")


def first(chip):
    isles = tuple(("up", 0, True, False, False, "clean", "clean", "same") for _ in chip.names)
    return isles, tuple("open" for _ in holders(chip))


def holders(chip):
    """All holding clamps, as (wire, index)."""
    return [(name, index) for name in chip.wires for index, station in enumerate(chip.wire(name).stations)
            if isinstance(station, Holding)]


def opened(chip, state):
    isles = {name: dict(zip(FIELDS, row)) for name, row in zip(chip.names, state[0])}
    return isles, dict(zip(holders(chip), state[1]))


def closed(chip, isles, held):
    return tuple(tuple(isles[name][field] for field in FIELDS) for name in chip.names), tuple(held[at] for at in holders(chip))


def is_dark(chip, isles, place, seen=()):
    if place == "shore" or place in seen:
        return False
    return isles[place]["away"] or any(is_dark(chip, isles, other, seen + (place,)) for other in chip[place].leash)


def is_dusty(chip, isles, lead):
    return any(is_dark(chip, isles, name) for name in lead)


def can_come(chip, isles, event):
    if event == ("tick", "shore"):
        return True
    row = isles[event[1]]
    if event[0] == "tick":
        return row["clock"]
    isle = chip[event[1]]
    if event[0] == "turn":
        kind, p, _ = isle.turns[event[2]]
        return (row["phase"], row["count"]) == ("falling" if kind == "sleep" else "waking", p)
    if row["phase"] == "up":
        return isle.sleeps and all(isles[name]["phase"] == "asleep" for name in chip.names if isle.name in chip[name].needs)
    if row["phase"] == "asleep":
        return all(isles[name]["phase"] == "up" for name in isle.needs)
    return True


def events(chip, state):
    isles, _ = opened(chip, state)
    found = []
    for name in chip.names:
        found.append(("deed", name))
        found += [("turn", name, index) for index, _ in enumerate(chip[name].turns)]
        found.append(("tick", name))
    return [event for event in found + [("tick", "shore")] if can_come(chip, isles, event)]


def move_post(isle, row, event):
    """Changes the post; returns the word of a deed."""
    if event[0] == "turn":
        kind, _, q = isle.turns[event[2]]
        row["phase"], row["count"] = ("waking" if kind == "sleep" else "falling"), q
        return None
    going = row["phase"] in ("up", "falling")
    words = isle.sleep if going else isle.wake
    done = row["count"] + 1
    word = words[row["count"]]
    row["phase"], row["count"] = ("falling" if going else "waking"), done
    if done == len(words):
        row["phase"], row["count"] = ("asleep" if going else "up"), 0
    return word


def walk_from(chip, isles, name):
    wire = chip.wire(name)
    if wire.driver == "shore":
        return "clean"
    row = isles[wire.driver]
    if is_dark(chip, isles, wire.driver) or "dust" in (row["kept"], row["plain"]):
        return "dust"
    return "older" if row["kept"] == "older" else "clean"


def walk_marks(chip, isles, held, name):
    marks = [walk_from(chip, isles, name)]
    for index, station in enumerate(chip.wire(name).stations):
        mark = marks[-1]
        if is_dark(chip, isles, station.on):
            mark = "dust"
        elif isinstance(station, Clamp):
            if is_dusty(chip, isles, station.line):
                mark = "dust"
            elif isles[station.owner]["shut"]:
                mark = held[name, index] if isinstance(station, Holding) else "clean"
        marks.append(mark)
    return marks


def step(chip, state, event):
    isles, held = opened(chip, state)
    word = None
    became = None
    if event[0] != "tick":
        row = isles[event[1]]
        word = move_post(chip[event[1]], row, event)
        if word in SET:
            field, value = SET[word]
            became = event[1] if word == "shut" and not row["shut"] else None
            row[field] = value
    if event[1] != "shore" and not is_dark(chip, isles, event[1]):
        lit_effect(isles[event[1]], "tick" if event[0] == "tick" else word)
    elif word == "save":
        isles[event[1]]["shadow"] = "dust"
    for name in chip.names:
        if is_dark(chip, isles, name):
            isles[name]["kept"] = isles[name]["plain"] = "dust"
        if is_dusty(chip, isles, chip[name].leash):
            isles[name]["shadow"] = "dust"
        if chip[name].kept == 0:
            isles[name]["kept"], isles[name]["shadow"] = "clean", "same"
        if chip[name].plain == 0:
            isles[name]["plain"] = "clean"
    hold(chip, isles, held, became)
    return closed(chip, isles, held)


def lit_effect(row, word):
    if word == "save":
        row["shadow"] = {"clean": "same", "older": "older", "dust": "dust"}[row["kept"]]
    if word == "reset":
        row["plain"] = "clean"
    if word == "back":
        row["kept"] = {"same": "clean", "older": "older", "dust": "dust"}[row["shadow"]]
    if word == "tick" and row["shadow"] == "same":
        row["shadow"] = "older"


def hold(chip, isles, held, became):
    for name, index in holders(chip):
        station = chip.wire(name).stations[index]
        if not isles[station.owner]["shut"]:
            held[name, index] = "open"
        elif is_dark(chip, isles, station.on) or is_dusty(chip, isles, station.line):
            held[name, index] = "dust"
        elif station.owner == became:
            held[name, index] = walk_marks(chip, isles, held, name)[index]


def bad(chip, state):
    isles, held = opened(chip, state)
    found = []
    for name in chip.names:
        row = isles[name]
        if row["clock"]:
            if is_dark(chip, isles, name):
                found.append(("lost", name))
            if "dust" in (row["kept"], row["plain"]):
                found.append(("own", name))
            if row["kept"] == "older":
                found.append(("older", name))
    for name in chip.wires:
        reader = chip.wire(name).reader
        if (reader == "shore" or isles[reader]["clock"]) and walk_marks(chip, isles, held, name)[-1] != "clean":
            found.append(("wire", name))
    return tuple(sorted(found))


def is_bad(chip, state, question):
    if question[0] == "wire":
        return question in bad(chip, state)
    return any((word, question[1]) in bad(chip, state) for word in ("lost", "own", "older"))


def every_state(chip, most=100000):
    """A dict from each state that comes to (the state ahead, the event), None for the first one; fewest events first."""
    found = {first(chip): None}
    ahead = [first(chip)]
    while ahead:
        fresh = []
        for state in ahead:
            for event in events(chip, state):
                behind = step(chip, state, event)
                if behind not in found:
                    found[behind] = (state, event)
                    fresh.append(behind)
        ahead = fresh
        assert len(found) <= most
    return found
