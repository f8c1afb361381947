"""Chips, states and runs that are made by chance, the same ones each time."""

from duskisles.chips import Chip
from duskisles.isles import Isle
from duskisles.stations import Clamp, Holding, Pass
from duskisles.wires import Wire
from oracle import events, first, holders, step

SLEEP = ("still", "shut", "save", "dark")
WAKE = ("lit", "reset", "back", "open", "go")


def some(dice, things, most):
    things = list(things)
    return tuple(dice.sample(things, min(len(things), dice.randint(0, most))))


def row_of(dice, words, whole):
    """A row: mostly the words in an order that is near the usual one."""
    row = list(words) if dice.random() < whole else dice.sample(words, dice.randint(1, len(words)))
    if dice.random() < 0.5:
        row = sorted(row, key=words.index)
    return tuple(row)


def turns_of(dice, sleep, wake, most):
    every = [("sleep", p, q) for p in range(1, len(sleep)) for q in range(len(wake))]
    every += [("wake", p, q) for p in range(1, len(wake)) for q in range(len(sleep))]
    return some(dice, every, most)


def made_isle(dice, name, names, *, turns=1, whole=0.7, needs=1, leash=1):
    others = [other for other in names if other != name]
    sleep, wake = row_of(dice, SLEEP, whole), row_of(dice, WAKE, whole)
    kept = dice.randint(0, 2)
    return Isle(name, kept=kept, plain=dice.randint(0 if kept else 1, 2), leash=some(dice, others, leash),
                needs=some(dice, others, needs) if dice.random() < 0.5 else (), sleeps=dice.random() < 0.85, sleep=sleep,
                wake=wake, turns=turns_of(dice, sleep, wake, turns))


def made_station(dice, names):
    on = dice.choice(names + ["shore"])
    kind = dice.randint(0, 3)
    if kind == 0:
        return Pass(on)
    line = some(dice, names, 1)
    if kind == 1:
        return Clamp(on, dice.choice(names), gives=dice.randint(0, 1), line=line)
    return Holding(on, dice.choice(names), line=line)


def made_wire(dice, name, names, stations=3):
    driver, reader = dice.sample(names + ["shore"], 2)
    return Wire.of(name, driver, reader, [made_station(dice, names) for _ in range(dice.randint(0, stations))])


def made_chip(dice, isles=3, wires=3, **kinds):
    names = dice.sample("abcdefgh", dice.randint(1, isles))
    count = dice.randint(0, wires)
    return Chip.of([made_isle(dice, name, names, **kinds) for name in names],
                   [made_wire(dice, name, names) for name in "zyxwvu"[:count]], dice.randint(1, 3))


def made_run(dice, chip, length, *, ticks=0.3):
    """A list of events that can be done, with fewer ticks than chance would have."""
    state, run = first(chip), []
    for _ in range(length):
        every = events(chip, state)
        deeds = [event for event in every if event[0] != "tick"]
        event = dice.choice(deeds if deeds and dice.random() > ticks else every)
        run.append(event)
        state = step(chip, state, event)
    return run


def made_state(dice, chip):
    """Any state of the form that the document tells."""
    rows = []
    for name in chip.names:
        isle = chip[name]
        posts = [("up", 0), ("asleep", 0)] + [("falling", n) for n in range(len(isle.sleep))]
        posts += [("waking", n) for n in range(len(isle.wake))]
        flags = [dice.random() < 0.6, dice.random() < 0.5, dice.random() < 0.3]
        marks = [dice.choice(["clean", "older", "dust"]) if isle.kept else "clean",
                 dice.choice(["clean", "dust"]) if isle.plain else "clean",
                 dice.choice(["same", "older", "dust"]) if isle.kept else "same"]
        rows.append((*dice.choice(posts), *flags, *marks))
    shut = {name: row[3] for name, row in zip(chip.names, rows)}
    owners = [chip.wire(wire).stations[index].owner for wire, index in holders(chip)]
    return tuple(rows), tuple(dice.choice(["clean", "older", "dust"]) if shut[owner] else "open" for owner in owners)
