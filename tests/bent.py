"""Things bent in one place, by chance: what is told rightly, and then not quite."""

SWAPS = {"up": "asleep", "asleep": "up", "falling": "waking", "waking": "falling", "clean": "dust", "dust": "older", "older": "same",
         "same": "clean", "open": "clean", "safe": "bad", "bad": "safe", "isle": "wire", "wire": "isle", "deed": "turn", "tick": "deed",
         "always": "not", "not": "always", "orders": "none", "none": "orders", "station": "line", "line": "leash", "leash": "station"}
STRANGE = [None, True, False, 0, 1, -1, "", "a", "clean", (), [], {}, ("a",), ((),), [("tick", "shore")]]


def places(thing, most=2000):
    """All ways to parts of a thing, each a tuple of indexes or keys."""
    ways = [()]
    for way in ways:
        part = part_at(thing, way)
        if isinstance(part, (list, tuple)) and len(ways) < most:
            ways += [(*way, index) for index in range(len(part))]
        if isinstance(part, dict) and len(ways) < most:
            ways += [(*way, key) for key in part]
    return ways


def part_at(thing, way):
    for key in way:
        thing = thing[key]
    return thing


def with_part(thing, way, part):
    """A copy of a thing with another part at the end of a way."""
    if not way:
        return part
    inner = with_part(thing[way[0]], way[1:], part)
    if isinstance(thing, dict):
        return {key: inner if key == way[0] else thing[key] for key in thing}
    row = list(thing)
    row[way[0]] = inner
    return row if isinstance(thing, list) else tuple(row)


def bent_row(dice, row):
    kind, rest = type(row), list(row)
    choice = dice.randint(0, 6)
    at = dice.randrange(len(rest)) if rest else 0
    if choice == 0 and rest:
        del rest[at]
    elif choice == 1 and rest:
        rest.insert(at, rest[at])
    elif choice == 2 and len(rest) > 1:
        at = dice.randrange(len(rest) - 1)
        rest[at], rest[at + 1] = rest[at + 1], rest[at]
    elif choice == 3:
        rest.reverse()
    elif choice == 4:
        kind = list if kind is tuple else tuple
    elif choice == 5:
        rest.append(dice.choice(STRANGE))
    else:
        return dice.choice(STRANGE)
    return kind(rest)


def bent_part(dice, part):
    if isinstance(part, bool):
        return dice.choice([int(part), not part, None])
    if isinstance(part, int):
        return dice.choice([part == 1, part + 1, part - 1, 0, 1])
    if isinstance(part, str):
        return SWAPS.get(part, "b") if dice.random() < 0.7 else dice.choice(STRANGE)
    if isinstance(part, (list, tuple)):
        return bent_row(dice, part)
    if isinstance(part, dict) and part:
        gone = dice.choice(list(part))
        return {key: part[key] for key in part if key != gone}
    return dice.choice(STRANGE)


def bent(dice, thing):
    """The thing with one part bent; sometimes the outer parts, of which there are few, are chosen."""
    ways = places(thing)
    way = dice.choice(ways if dice.random() < 0.7 else ways[:12])
    return with_part(thing, way, bent_part(dice, part_at(thing, way)))
