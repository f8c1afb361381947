"""What may be told about a chip, as the document says of runs [12], tables [17], verdicts, orders [19], spots [20], hearing [22],
guides and refusals [23]: a second telling, plain and slow, that trusts nothing of the package but its classes of chips."""

import itertools

import oracle
import oraclecones as cones
import oracletables as tables
from duskisles.chips import Chip
from duskisles.stations import Clamp, Holding, Pass
from duskisles.wires import Wire

KEPT, PLAIN, SHADOW = ("clean", "older", "dust"), ("clean", "dust"), ("same", "older", "dust")
PAIRS = [("still", "dark"), ("still", "save"), ("save", "dark"), ("shut", "dark"), ("lit", "reset"), ("lit", "back"), ("lit", "open"),
         ("lit", "go"), ("reset", "open"), ("back", "open"), ("reset", "go"), ("back", "go")]


def same(one, other):
    """Whether two values are equal, and of equal kinds all through."""
    if type(one) is not type(other):
        return False
    if isinstance(one, (list, tuple)):
        return len(one) == len(other) and all(same(a, b) for a, b in zip(one, other))
    return one == other


def is_one_of(value, things):
    return any(same(value, thing) for thing in things)


def is_tuple(value, count):
    return type(value) is tuple and len(value) == count


def ascends(rows):
    return all(one < other for one, other in zip(rows, rows[1:]))


def every_event(chip):
    rows = [("tick", "shore")]
    for name in chip.names:
        rows += [("deed", name), ("tick", name)] + [("turn", name, index) for index, _ in enumerate(chip[name].turns)]
    return rows


def states_of(chip, events):
    """The states of a run, or None if a value is no event or one cannot come."""
    states = [oracle.first(chip)]
    for event in events:
        if not is_one_of(event, every_event(chip)) or event not in oracle.events(chip, states[-1]):
            return None
        states.append(oracle.step(chip, states[-1], event))
    return states


def is_run(chip, question, thing):
    if type(thing) is not list:
        return False
    states = states_of(chip, thing)
    return states is not None and [oracle.is_bad(chip, state, question) for state in states] == [False] * len(thing) + [True]


def is_table(chip, question, thing):
    if type(thing) is not tuple:
        return False
    names = cones.cone(chip, question)
    stands = {name: cones.stands(chip, question, name) for name in names}
    if not all(is_row(chip, question, row, stands) for row in thing) or not ascends(thing):
        return False
    if tables.first_row(chip, question) not in thing or any(tables.is_bad(chip, question, row) for row in thing):
        return False
    known = set(thing)
    return all(other in known for row in thing for other in tables.next_rows(chip, question, row))


def is_row(chip, question, row, stands):
    names = list(stands)
    if not is_tuple(row, 3) or not is_tuple(row[0], len(names)):
        return False
    if not all(is_one_of(stand, stands[name]) for stand, name in zip(row[0], names)):
        return False
    whole = cones.full(chip, question)
    if whole is None:
        if not same(row[1], ()):
            return False
    elif not is_one_of(row[1], marks_of(chip[whole])):
        return False
    owners = [chip.wire(name).stations[index].owner for name, index in tables.held_places(chip, question)]
    return is_tuple(row[2], len(owners)) and all(is_one_of(mark, KEPT if row[0][names.index(owner)][3] else ["open"])
                                                 for mark, owner in zip(row[2], owners))


def marks_of(isle):
    kept = KEPT if isle.kept else ["clean"]
    return list(itertools.product(kept, PLAIN if isle.plain else ["clean"], SHADOW if isle.kept else ["same"]))


def are_tables(chip, thing):
    return is_tuple(thing, len(chip.questions)) and all(is_tuple(pair, 2) and same(pair[0], question) and is_table(chip, question, pair[1])
                                                        for pair, question in zip(thing, chip.questions))


def is_harm(chip, question, events):
    return is_one_of(question, chip.questions) and is_run(chip, question, events)


def is_verdict(chip, thing):
    if is_tuple(thing, 2):
        return same(thing[0], "safe") and are_tables(chip, thing[1])
    return is_tuple(thing, 3) and same(thing[0], "bad") and is_harm(chip, thing[1], thing[2])


def is_safe(chip):
    """By a search through all states that come."""
    return not any(oracle.bad(chip, state) for state in oracle.every_state(chip))


def orders(isle):
    return sorted(itertools.product(itertools.permutations(isle.sleep), itertools.permutations(isle.wake)))


def with_order(chip, name, order):
    return chip.with_isles(chip[name].changed(sleep=order[0], wake=order[1]))


def candidates(isle):
    return sorted(pair for pair in PAIRS if set(pair) <= set(isle.sleep + isle.wake))


def keeps(order, pair):
    row = order[0] + order[1]
    return row.index(pair[0]) < row.index(pair[1])


def implied(isle, pairs):
    """The candidates that all orders keep that keep these pairs."""
    left = [order for order in orders(isle) if all(keeps(order, pair) for pair in pairs)]
    return [pair for pair in candidates(isle) if all(keeps(order, pair) for order in left)]


def is_orders_paper(chip, name, thing):
    isle = chip[name]
    wanted = candidates(isle)
    if type(thing) is not tuple or len(thing) not in (4, 5) or not is_one_of(thing[1], orders(isle)):
        return False
    if not all(keeps(thing[1], pair) for pair in wanted):
        return False
    begin = with_order(chip, name, thing[1])
    if len(thing) == 4:
        return same(thing[0], "none") and is_harm(begin, thing[2], thing[3])
    needed, free = thing[3:]
    if not same(thing[0], "orders") or not are_tables(begin, thing[2]) or type(needed) is not tuple or type(free) is not tuple:
        return False
    if not all(is_tuple(row, 4) for row in needed) or not all(is_tuple(row, 3) for row in free):
        return False
    pairs = [row[0] for row in needed]
    if not all(is_one_of(pair, wanted) for pair in pairs) or not ascends(pairs):
        return False
    if any(pair in implied(isle, [other for other in pairs if other != pair]) for pair in pairs):
        return False
    if not same([row[0] for row in free], [pair for pair in wanted if pair not in implied(isle, pairs)]):
        return False
    for pair, order, *harm in needed:
        if not is_one_of(order, orders(isle)) or [other for other in pairs if not keeps(order, other)] != [pair]:
            return False
        if not is_harm(with_order(chip, name, order), *harm):
            return False
    return all(is_one_of(order, orders(isle)) and all(keeps(order, other) for other in pairs) and not keeps(order, pair)
               and are_tables(with_order(chip, name, order), told) for pair, order, told in free)


def spots(chip):
    found = [("leash", name, index) for name in chip.names for index in range(len(chip[name].leash))]
    for name in chip.wires:
        for index, station in enumerate(chip.wire(name).stations):
            found += [("station", name, index)] if station.on != "shore" else []
            found += [("line", name, index, other) for other in range(len(station.line))]
    return sorted(found)


def propped(chip, gone):
    """The chip with these spots propped."""
    isles = [chip[name].changed(leash=tuple(other for index, other in enumerate(chip[name].leash) if ("leash", name, index) not in gone))
             for name in chip.names]
    wires = []
    for name in chip.wires:
        wire, stations = chip.wire(name), []
        for index, station in enumerate(wire.stations):
            on = "shore" if ("station", name, index) in gone else station.on
            line = tuple(other for at, other in enumerate(station.line) if ("line", name, index, at) not in gone)
            if type(station) is Pass:
                stations.append(Pass(on))
            elif type(station) is Clamp:
                stations.append(Clamp(on, station.owner, gives=station.gives, line=line))
            else:
                stations.append(Holding(on, station.owner, line=line))
        wires.append(Wire(name, wire.driver, wire.reader, *stations))
    return Chip(*isles, wires=tuple(wires), shore=chip.shore)


def least(rows):
    """Those of some sets that have no other one within them, shorter ones first, then ascending."""
    found = [row for row in rows if not any(set(other) < set(row) for other in rows)]
    return sorted(found, key=lambda row: (len(row), row))


def subsets(things):
    return [row for count in range(len(things) + 1) for row in itertools.combinations(things, count)]


def least_hitting(rows, things):
    """The least sets of these things that have one or more of each of these rows."""
    return least([row for row in subsets(things) if all(set(row) & set(other) for other in rows)])


def is_mends_paper(chip, thing):
    known = spots(chip)
    if not is_tuple(thing, 2) or type(thing[0]) is not tuple or type(thing[1]) is not tuple:
        return False
    if not all(is_tuple(row, 2) for row in thing[0]) or not all(is_tuple(row, 3) for row in thing[1]):
        return False
    sets, told = [row[0] for row in thing[0]], [row[0] for row in thing[1]]
    for row in sets + told:
        if type(row) is not tuple or not all(is_one_of(spot, known) for spot in row) or not ascends(row):
            return False
    if sets != least(sets) or len(sets) != len(set(sets)) or told != least_hitting(sets, known):
        return False
    return (all(are_tables(propped(chip, row), told) for row, told in thing[0])
            and all(is_harm(propped(chip, [spot for spot in known if spot not in row]), *harm) for row, *harm in thing[1]))


def is_heard(chip, state, name):
    isles, _ = oracle.opened(chip, state)
    wire = chip.wire(name)
    ticking = all(end == "shore" or isles[end]["clock"] for end in (wire.driver, wire.reader))
    owners = [station.owner for station in wire.stations if station.owner is not None]
    return not (ticking and any(isles[owner]["shut"] for owner in owners))


def hearing_first(chip, name):
    return tuple(cones.first_stand(chip, ("hearing", name), isle) for isle in cones.cone(chip, ("hearing", name)))


def hearing_next(chip, name, row):
    question, found = ("hearing", name), set()
    names = cones.cone(chip, question)
    for isle, stand in zip(names, row):
        if tables.lets(chip, question, (row,), isle):
            found |= {tuple(other if each == isle else old for each, old in zip(names, row))
                      for other in cones.next_stands(chip, question, isle, stand)}
    return sorted(found)


def is_heard_in(chip, name, row):
    stands, wire = dict(zip(cones.cone(chip, ("hearing", name)), row)), chip.wire(name)
    ticking = all(end == "shore" or stands[end][2] for end in (wire.driver, wire.reader))
    return not (ticking and any(stands[owner][3] for owner in cones.owners(chip, ("hearing", name))))


def hearing_rows(chip, name):
    """All hearing rows that come."""
    found, ahead = set(), [hearing_first(chip, name)]
    while ahead:
        row = ahead.pop()
        if row not in found:
            found.add(row)
            ahead += hearing_next(chip, name, row) if is_heard_in(chip, name, row) else []
    return found


def is_hearing(chip, name, thing):
    if not is_tuple(thing, 2):
        return False
    if same(thing[0], "not"):
        states = states_of(chip, thing[1]) if type(thing[1]) is list else None
        return states is not None and not is_heard(chip, states[-1], name)
    if not same(thing[0], "always") or type(thing[1]) is not tuple:
        return False
    names = cones.cone(chip, ("hearing", name))
    stands = [cones.stands(chip, ("hearing", name), isle) for isle in names]
    for row in thing[1]:
        if not is_tuple(row, len(names)) or not all(is_one_of(stand, known) for stand, known in zip(row, stands)):
            return False
    rows = set(thing[1])
    if not ascends(thing[1]) or hearing_first(chip, name) not in rows:
        return False
    return all(is_heard_in(chip, name, row) and rows.issuperset(hearing_next(chip, name, row)) for row in thing[1])


def every_state_form(chip):
    """All states of a chip, whether they come or not. (There are many.)"""
    rows = []
    for name in chip.names:
        isle = chip[name]
        posts = [("up", 0), ("asleep", 0)] + [("falling", n) for n in range(len(isle.sleep))] + [("waking", n) for n in range(len(isle.wake))]
        flags = itertools.product((True, False), repeat=3)
        rows.append([(*post, *flag, *marks) for post, flag, marks in itertools.product(posts, list(flags), marks_of(isle))])
    owners = [chip.wire(name).stations[index].owner for name, index in oracle.holders(chip)]
    for isles in itertools.product(*rows):
        shut = {name: row[3] for name, row in zip(chip.names, isles)}
        for held in itertools.product(*[KEPT if shut[owner] else ["open"] for owner in owners]):
            yield isles, held


def is_state(chip, value):
    if not is_tuple(value, 2) or not is_tuple(value[0], len(chip.names)):
        return False
    for name, row in zip(chip.names, value[0]):
        isle = chip[name]
        if not is_tuple(row, 8) or not all(type(flag) is bool for flag in row[2:5]) or type(row[0]) is not str or type(row[1]) is not int:
            return False
        most = {"up": 1, "asleep": 1, "falling": len(isle.sleep), "waking": len(isle.wake)}.get(row[0], 0)
        if not 0 <= row[1] < most or not is_one_of(row[5:], marks_of(isle)):
            return False
    owners = [chip.wire(name).stations[index].owner for name, index in oracle.holders(chip)]
    shut = {name: row[3] for name, row in zip(chip.names, value[0])}
    return is_tuple(value[1], len(owners)) and all(is_one_of(mark, KEPT if shut[owner] else ["open"]) for mark, owner in zip(value[1], owners))


def behind(chip, state, ticks):
    return [oracle.step(chip, state, event) for event in oracle.events(chip, state) if (event[0] == "tick") == ticks]


def all_up(state):
    return all(row[0] == "up" for row in state[0])


def is_guide(chip, thing):
    if type(thing) is not dict or not all(is_state(chip, state) for state in thing):
        return False
    if not all(type(number) is int and number >= 0 for number in thing.values()):
        return False
    for state, number in thing.items():
        if oracle.bad(chip, state) or not all(other in thing for other in behind(chip, state, True)):
            return False
        if not (all_up(state) if number == 0 else any(thing.get(other) == number - 1 for other in behind(chip, state, False))):
            return False
    return True


def is_refusal(chip, state, thing):
    if type(thing) is not list or not thing:
        return False
    for row in thing:
        if type(row) is not tuple or not row or not all(is_state(chip, each) for each in row) or not ascends(row):
            return False
    if state not in thing[-1]:
        return False
    for index, row in enumerate(thing):
        earlier = {each for other in thing[:index] for each in other}
        bad = all(oracle.bad(chip, each) for each in row)
        ticked = all(set(behind(chip, each, True)) & earlier for each in row)
        stuck = not any(all_up(each) for each in row) and all(set(behind(chip, each, False)) <= earlier | set(row) for each in row)
        if not bad and not ticked and not stuck:
            return False
    return True


def let_states(chip, states):
    """Of a set of states with all that come behind them, the greatest good set within it."""
    good = {state for state in states if not oracle.bad(chip, state)}
    ticks = {state: behind(chip, state, True) for state in states}
    moves = {state: behind(chip, state, False) for state in states}
    while True:
        kept = {state for state in good if all(other in good for other in ticks[state])}
        home = {state for state in kept if all_up(state)}
        fresh = home
        while fresh:
            fresh = {state for state in kept - home if any(other in home for other in moves[state])}
            home |= fresh
        if home == good:
            return good
        good = home
