"""Orders: in which orders the words of the rows of an isle are safe."""

from duskisles.errors import HasTurns, HoldsOwn, InvalidIsle, NoPair
from duskisles.forms import is_ascending, is_tuple
from duskisles.memory import Memory
from duskisles.rows import candidates_of, follows, is_arranged, is_order, keeps, keeps_all, orders_with
from duskisles.stations import Holding
from duskisles.verdict import lets_harm, lets_tables, verdict


def ordered(chip, name, order):
    """The chip in which an isle, any value, has this order, any value."""
    isle = _ordered_isle(chip, name)
    if not is_tuple(order, 2) or not is_arranged(order[0], isle.sleep):
        raise InvalidIsle(name, "sleep")
    if not is_arranged(order[1], isle.wake):
        raise InvalidIsle(name, "wake")
    return _with_order(chip, name, order)


class Orders:
    """The safe orders of an isle. It never changes."""

    def __init__(self, chip, name):
        self._chip = chip
        self._isle = _ordered_isle(chip, name)
        self._candidates = candidates_of(self._isle)
        self._begin = orders_with(self._isle, self._candidates, ())[0]
        pairs = _needed_pairs(chip, self._isle, self._begin)
        self._pairs = () if pairs is None else pairs
        self._safe = () if pairs is None else tuple(orders_with(self._isle, pairs, ()))

    @property
    def candidates(self):
        """The ascending tuple of the pairs that may be needed."""
        return self._candidates

    @property
    def pairs(self):
        """The ascending tuple of the pairs that the safe orders are those to keep."""
        return self._pairs

    def __len__(self):
        return len(self._safe)

    def __contains__(self, order):
        return order in self._safe

    def every_safe(self):
        """Yields all safe orders, ascending."""
        yield from self._safe

    def run(self, pair):
        """(order, question, events): an order that breaks this one of the pairs alone, and a run that shows it bad."""
        if pair not in self._pairs:
            raise NoPair(pair)
        others = [other for other in self._pairs if other != pair]
        return self._harm_with(orders_with(self._isle, others, (pair,))[0])

    def reason(self):
        """None, or (order, question, events) with the first order that keeps all candidates, if no order is safe."""
        return None if self._safe else self._harm_with(self._begin)

    def paper(self):
        """What shows somebody who does not trust this which orders are safe."""
        if not self._safe:
            return ("none", *self._harm_with(self._begin))
        memory = Memory()
        needed = tuple([(pair, *self.run(pair)) for pair in self._pairs])
        free = [(pair, orders_with(self._isle, self._pairs, (pair,))[0])
                for pair in _free_pairs(self._candidates, self._pairs)]
        rows = tuple([(pair, order, memory.tables_of(self._chip_with(order))) for pair, order in free])
        return ("orders", self._begin, memory.tables_of(self._chip_with(self._begin)), needed, rows)

    def _chip_with(self, order):
        """The chip with an order of the isle."""
        return _with_order(self._chip, self._isle.name, order)

    def _harm_with(self, order):
        """(order, question, events) for an order that is not safe."""
        return (order, *verdict(self._chip_with(order))[1:])


def lets_orders(chip, name, thing):
    """Whether any value is a right paper about the orders of an isle, any value."""
    isle = _ordered_isle(chip, name)
    if is_tuple(thing, 4) and thing[0] == "none":
        _, order, question, events = thing
        return _keeps_candidates(isle, order) and lets_harm(_with_order(chip, name, order), question, events)
    if not is_tuple(thing, 5) or thing[0] != "orders":
        return False
    _, order, tables, needed, free = thing
    return (_keeps_candidates(isle, order) and lets_tables(_with_order(chip, name, order), tables)
            and _lets_pairs(chip, isle, needed, free))


def _ordered_isle(chip, name):
    """The isle with this name, any value, if its orders can be asked for."""
    isle = chip[name]
    if isle.turns:
        raise HasTurns(name)
    wires = [chip.wire(wire) for wire in chip.wires]
    if any([isinstance(station, Holding) and station.owner == name for wire in wires if wire.reader == name
            for station in wire.stations]):
        raise HoldsOwn(name)
    return isle


def _needed_pairs(chip, isle, begin):
    """The ascending tuple of the pairs that the safe orders of an isle are those to keep, or None if not even this
    order is safe, which keeps all candidates."""
    memory = Memory()
    if memory.bad_question(_with_order(chip, isle.name, begin)) is not None:
        return None
    left = candidates_of(isle)
    needed = []
    while True:
        # Only a pair that does not follow from others can be broken alone.
        unsure = [pair for pair in left if pair not in needed and not follows(pair, left)]
        if not unsure:
            return tuple(sorted(needed))
        others = [pair for pair in left if pair != unsure[0]]
        order = orders_with(isle, others, (unsure[0],))[0]
        if memory.bad_question(_with_order(chip, isle.name, order)) is None:
            left = others
        else:
            needed.append(unsure[0])


def _with_order(chip, name, order):
    """The chip in which an isle has this order."""
    return chip.with_isles(chip[name].changed(sleep=order[0], wake=order[1]))


def _free_pairs(candidates, pairs):
    """The list of the candidates that are none of these pairs and do not follow from them."""
    return [pair for pair in candidates if pair not in pairs and not follows(pair, pairs)]


def _keeps_candidates(isle, value):
    """Whether any value is an order that keeps all candidates."""
    return is_order(isle, value) and keeps_all(value, candidates_of(isle))


def _lets_pairs(chip, isle, needed, free):
    """Whether any values tell rightly which pairs are needed, and that no other candidate is."""
    candidates = candidates_of(isle)
    if not _are_rows(needed, 4, isle) or not _are_rows(free, 3, isle):
        return False
    pairs = tuple([row[0] for row in needed])
    if not all([pair in candidates for pair in pairs]) or not is_ascending(pairs):
        return False
    if any([follows(pair, pairs) for pair in pairs]) or [row[0] for row in free] != _free_pairs(candidates, pairs):
        return False
    return (all([_breaks_alone(order, pair, pairs) and lets_harm(_with_order(chip, isle.name, order), question, events)
                 for pair, order, question, events in needed])
            and all([not keeps(order, pair) and keeps_all(order, pairs)
                     and lets_tables(_with_order(chip, isle.name, order), tables) for pair, order, tables in free]))


def _are_rows(value, count, isle):
    """Whether any value is a tuple of tuples of so many, each with an order as its second item."""
    if not isinstance(value, tuple):
        return False
    return all([is_tuple(row, count) and is_order(isle, row[1]) for row in value])


def _breaks_alone(order, pair, pairs):
    """Whether an order breaks this one of the pairs and keeps all others."""
    return not keeps(order, pair) and keeps_all(order, [other for other in pairs if other != pair])
