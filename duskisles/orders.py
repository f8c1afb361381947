"""Orders: in which orders the words of the rows of an isle are safe."""

from duskisles.errors import HasTurns, HoldsOwn, InvalidIsle, NoPair
from duskisles.forms import is_ascending, is_tuple
from duskisles.orderings import Orderings
from duskisles.rows import (FOLLOWING, broken, candidates_of, first_order, follows, is_arranged, is_order, keeps,
                            keeps_all, many_orders, orders_with, swapped)
from duskisles.stations import Holding
from duskisles.verdict import lets_harm, lets_tables


def ordered(chip, name, order):
    """The chip in which an isle, any value, has this order, any value."""
    isle = _ordered_isle(chip, name)
    if not is_tuple(order, 2) or not is_arranged(order[0], isle.sleep):
        raise InvalidIsle(name, "sleep")
    if not is_arranged(order[1], isle.wake):
        raise InvalidIsle(name, "wake")
    return _with_order(chip, name, order)


class Orders:
    """The safe orders of an isle. It never changes."""

    def __init__(self, chip, name):
        self._isle = _ordered_isle(chip, name)
        self._orderings = Orderings(chip, self._isle)
        self._candidates = candidates_of(self._isle)
        self._begin = first_order(self._isle, self._candidates)
        self._is_safe = self._orderings.bad_question(self._begin) is None
        self._pairs = _needed_pairs(self._orderings, self._candidates, self._begin) if self._is_safe else ()
        self._orderings.forget()

    @property
    def candidates(self):
        """The ascending tuple of the pairs that may be needed."""
        return self._candidates

    @property
    def pairs(self):
        """The ascending tuple of the pairs that the safe orders are those to keep."""
        return self._pairs

    def __len__(self):
        return len(range(self._many()))

    def __contains__(self, order):
        return self._is_safe and is_order(self._isle, order) and keeps_all(order, self._pairs)

    def every_safe(self):
        """Yields all safe orders, ascending."""
        orders = orders_with(self._isle, self._pairs) if self._is_safe else []
        yield from orders

    def run(self, pair):
        """(order, question, events): an order that breaks this one of the pairs alone, and a run that shows it bad."""
        if pair not in self._pairs:
            raise NoPair(pair)
        return self._orderings.harm_of(self._order_without(pair))

    def reason(self):
        """None, or (order, question, events) with the first order that keeps all candidates, if no order is safe."""
        return None if self._is_safe else self._orderings.harm_of(self._begin)

    def paper(self):
        """What shows somebody who does not trust this which orders are safe."""
        if not self._is_safe:
            return ("none", *self.reason())
        found = {}
        tables = self._orderings.tables_of(self._begin, found)
        needed = tuple([(pair, *self.run(pair)) for pair in self._pairs])
        free = [(pair, self._order_without(pair)) for pair in _free_pairs(self._candidates, self._pairs)]
        rows = tuple([(pair, order, self._orderings.tables_of(order, found)) for pair, order in free])
        return ("orders", self._begin, tables, needed, rows)

    def _many(self):
        """The number of safe orders."""
        return many_orders(self._isle, self._pairs) if self._is_safe else 0

    def _order_without(self, pair):
        """The first order that breaks a candidate and keeps all other pairs."""
        others = [other for other in self._pairs if other != pair]
        return first_order(self._isle, [*others, broken(pair)])


def lets_orders(chip, name, thing):
    """Whether any value is a right paper about the orders of an isle, any value."""
    isle = _ordered_isle(chip, name)
    if is_tuple(thing, 4) and thing[0] == "none":
        _, order, question, events = thing
        return _keeps_candidates(isle, order) and lets_harm(_with_order(chip, name, order), question, events)
    if not is_tuple(thing, 5) or thing[0] != "orders":
        return False
    _, order, tables, needed, free = thing
    return (_keeps_candidates(isle, order) and lets_tables(_with_order(chip, name, order), tables)
            and _lets_pairs(chip, isle, needed, free))


def _ordered_isle(chip, name):
    """The isle with this name, any value, if its orders can be asked for."""
    isle = chip[name]
    if isle.turns:
        raise HasTurns(name)
    wires = [chip.wire(wire) for wire in chip.wires]
    if any([isinstance(station, Holding) and station.owner == name for wire in wires if wire.reader == name
            for station in wire.stations]):
        raise HoldsOwn(name)
    return isle


def _needed_pairs(orderings, candidates, begin):
    """The ascending tuple of the pairs that the safe orders of an isle are those to keep, if this order is safe, which
    keeps all candidates."""
    left = list(candidates)
    needed = []
    # Only a pair that does not follow from others can be broken alone, so those that may follow come last.
    for pair in sorted(candidates, key=lambda each: (each in FOLLOWING, each)):
        if not follows(pair, left):
            if orderings.is_harm(pair, swapped(begin, pair, left)):
                needed.append(pair)
            else:
                left = [other for other in left if other != pair]
    return tuple(sorted(needed))


def _with_order(chip, name, order):
    """The chip in which an isle has this order."""
    return chip.with_isles(chip[name].changed(sleep=order[0], wake=order[1]))


def _free_pairs(candidates, pairs):
    """The list of the candidates that are none of these pairs and do not follow from them."""
    return [pair for pair in candidates if pair not in pairs and not follows(pair, pairs)]


def _keeps_candidates(isle, value):
    """Whether any value is an order that keeps all candidates."""
    return is_order(isle, value) and keeps_all(value, candidates_of(isle))


def _lets_pairs(chip, isle, needed, free):
    """Whether any values tell rightly which pairs are needed, and that no other candidate is."""
    candidates = candidates_of(isle)
    if not _are_rows(needed, 4, isle) or not _are_rows(free, 3, isle):
        return False
    pairs = tuple([row[0] for row in needed])
    if not all([pair in candidates for pair in pairs]) or not is_ascending(pairs):
        return False
    if any([follows(pair, pairs) for pair in pairs]) or [row[0] for row in free] != _free_pairs(candidates, pairs):
        return False
    return (all([_breaks_alone(order, pair, pairs) and lets_harm(_with_order(chip, isle.name, order), question, events)
                 for pair, order, question, events in needed])
            and all([not keeps(order, pair) and keeps_all(order, pairs)
                     and lets_tables(_with_order(chip, isle.name, order), tables) for pair, order, tables in free]))


def _are_rows(value, count, isle):
    """Whether any value is a tuple of tuples of so many, each with an order as its second item."""
    if not isinstance(value, tuple):
        return False
    return all([is_tuple(row, count) and is_order(isle, row[1]) for row in value])


def _breaks_alone(order, pair, pairs):
    """Whether an order breaks this one of the pairs and keeps all others."""
    return not keeps(order, pair) and keeps_all(order, [other for other in pairs if other != pair])
