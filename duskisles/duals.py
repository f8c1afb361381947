"""Whether two lists of sets are dual: the one has exactly the least sets that have something of each of the other. Sets
are bits of integers."""


def are_dual(rows, others, many):
    """Whether two lists of sets of at most so many things, in neither of which one set is within another one, are dual.

    Fredman and Khachiyan: both lists are dual exactly if they are so with each one thing taken as there and as not
    there. A thing that stands in many of the sets makes both parts small, and lists that are dual have such a thing."""
    ahead = [(rows, others)]
    while ahead:
        some, more = ahead.pop()
        if len(some) == 0 or len(more) == 0:
            if sorted([*some, *more]) != [0]:
                return False
        elif len(some) == 1 or len(more) == 1:
            if not _is_split(some, more) and not _is_split(more, some):
                return False
        elif not _can_be_dual(some, more, many):
            return False
        else:
            bit = _often(some, more, many)
            ahead.append((_without(some, bit), least_sets([row & ~bit for row in more])))
            ahead.append((least_sets([row & ~bit for row in some]), _without(more, bit)))
    return True


def within_none(rows):
    """Whether no set of a list is within another one of it."""
    return not any([row & other == row for at, row in enumerate(rows) for place, other in enumerate(rows)
                    if at != place])


def least_covers(rows):
    """The list of the least sets that have something of each of these sets."""
    covers = [0]
    for row in rows:
        covers = covers_with(covers, row)
    return covers


def covers_with(covers, row):
    """The least sets that have something of one more set, if these are so for some others."""
    bits = [1 << index for index in range(row.bit_length()) if row >> index & 1]
    rows = [[cover] if cover & row else [cover | bit for bit in bits] for cover in covers]
    return least_sets([cover for some in rows for cover in some])


def least_sets(rows):
    """The list of those of these sets that have no other one within them."""
    left = []
    for row in sorted(rows):
        # A set within another one is a lesser number.
        if not any([other & row == other for other in left]):
            left.append(row)
    return left


def _without(rows, bit):
    """The list of the sets that do not have a thing."""
    return [row for row in rows if not row & bit]


def _is_split(some, more):
    """Whether the one list has one set, and the other one each thing of it as a set."""
    if len(some) != 1:
        return False
    return sum(more) == some[0] and all([row > 0 and row & (row - 1) == 0 for row in more])


def _size(row, many):
    """How many things a set has."""
    return sum([row >> index & 1 for index in range(many)])


def _can_be_dual(some, more, many):
    """Whether two lists have what dual lists have: each two sets meet, and small sets stand for more than half."""
    if not all([row & other for row in some for other in more]):
        return False
    return sum([1 << (many - _size(row, many)) for row in [*some, *more]]) >= 1 << many


def _often(some, more, many):
    """The thing, as a bit, that stands most often in the sets of one of both lists."""
    counts = []
    for index in range(many):
        one = sum([row >> index & 1 for row in some])
        other = sum([row >> index & 1 for row in more])
        counts.append((max(one * len(more), other * len(some)), index))
    return 1 << max(counts)[1]
