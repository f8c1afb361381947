"""Points [7], [15], [16] and [18] told a second time, plainly and slowly: cones, what is read, stands, groups, labels. A question may
also be ("hearing", wire), which stands for the hearing cone of a wire."""

from oracle import SET


def reach(starts, onward):
    found, ahead = set(), list(starts)
    while ahead:
        name = ahead.pop()
        if name not in found:
            found.add(name)
            ahead += onward(name)
    return found


def sleepless(chip):
    awake = {name for name in chip.names if not chip[name].sleeps}
    for name in chip.names:
        if name in reach(chip[name].needs, lambda other: chip[other].needs):
            awake.add(name)
    return reach(awake, lambda other: chip[other].needs)


def powered(chip, question):
    """The isles that a question has by places, lines and leashes, the isle or driver among them."""
    if question[0] == "hearing":
        return set()
    if question[0] == "isle":
        starts = [question[1]]
    else:
        wire = chip.wire(question[1])
        starts = [wire.driver] + [station.on for station in wire.stations] + [name for station in wire.stations for name in station.line]
    return reach([name for name in starts if name != "shore"], lambda other: chip[other].leash)


def owners(chip, question):
    return {station.owner for station in chip.wire(question[1]).stations if station.owner} if question[0] != "isle" else set()


def reader(chip, question):
    """The reader of a wire; for hearing, both ends."""
    if question[0] == "hearing":
        return {chip.wire(question[1]).driver, chip.wire(question[1]).reader} - {"shore"}
    return {chip.wire(question[1]).reader} - {"shore"} if question[0] == "wire" else set()


def cone(chip, question):
    starts = powered(chip, question) | owners(chip, question) | reader(chip, question)
    return tuple(sorted(reach(starts, lambda other: chip[other].needs)))


def full(chip, question):
    if question[0] == "hearing":
        return None
    name = question[1] if question[0] == "isle" else chip.wire(question[1]).driver
    return None if name == "shore" else name


def reads(chip, question, name):
    if name == full(chip, question):
        return ("phase", "clock", "shut", "away")
    inside = cone(chip, question)
    hangs = any(name in chip[other].needs for other in inside) or any(other in inside for other in chip[name].needs)
    found = {"phase": hangs, "clock": name in reader(chip, question), "shut": name in owners(chip, question),
             "away": name in powered(chip, question)}
    return tuple(word for word in ("phase", "clock", "shut", "away") if found[word])


def first_stand(chip, question, name):
    words = reads(chip, question, name)
    return ("up", 0, True if "clock" in words else None, False if "shut" in words else None, False if "away" in words else None)


def moves(chip, question, name, stand):
    """The list of (is silent, event, behind) for the events of the keeper, no isle hindering it."""
    if name in sleepless(chip):
        return []
    isle, words = chip[name], reads(chip, question, name)
    phase, count, *flags = stand
    going = phase in ("up", "falling")
    row = isle.sleep if going else isle.wake
    changed = list(flags)
    if row[count] in SET:
        flag, value = SET[row[count]]
        if flag in words:
            changed[("clock", "shut", "away").index(flag)] = value
    last = count + 1 == len(row)
    post = (("asleep" if going else "up") if last else ("falling" if going else "waking"), 0 if last else count + 1)
    found = [(("deed", name), (*post, *changed))]
    for index, (kind, p, q) in enumerate(isle.turns):
        if (phase, count) == ("falling" if kind == "sleep" else "waking", p):
            found.append((("turn", name, index), ("waking" if kind == "sleep" else "falling", q, *flags)))
    ends = ("up", "asleep")
    told = []
    for event, behind in found:
        silent = behind[2:] == stand[2:] and not ("phase" in words and (phase in ends or behind[0] in ends))
        told.append((silent and name != full(chip, question), event, behind))
    return told


def group(chip, question, name, stand):
    return tuple(sorted(reach([stand], lambda each: [behind for silent, _, behind in moves(chip, question, name, each) if silent])))


def next_stands(chip, question, name, stand):
    return tuple(sorted({behind for member in group(chip, question, name, stand)
                         for silent, _, behind in moves(chip, question, name, member) if not silent}))


def stands(chip, question, name):
    told = [first_stand(chip, question, name)]
    for stand in told:
        told += [each for each in next_stands(chip, question, name, stand) if each not in told]
    return told


def label(chip, question, name, stand):
    phase = None
    if "phase" in reads(chip, question, name):
        phase = stand[0] if stand[0] in ("up", "asleep") else "between"
    return (phase, *stand[2:])
