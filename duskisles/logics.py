"""Logics: what isles and the shore make of their registers and of what they take."""


class Logic:
    """A logic that leaves the registers as they are."""

    def __call__(self, name, registers, taken):
        return registers


class Counting(Logic):
    """A logic that counts in each register."""

    def __call__(self, name, registers, taken):
        return _added(registers, 1)


class Adding(Counting):
    """A logic that counts, and adds the sum of what is taken."""

    def __call__(self, name, registers, taken):
        return _added(registers, 1 + _sum_of(taken))


class Mixing(Logic):
    """A logic that mixes registers and what is taken modulo a number."""

    def __init__(self, a, b, c, *, modulus=97):
        self._a = a
        self._b = b
        self._c = c
        self._modulus = modulus

    def __call__(self, name, registers, taken):
        added = self._b * _sum_of(taken)
        return tuple([(self._a * old + added + self._c * (index + 1)) % self._modulus
                      for index, old in enumerate(registers)])


def _sum_of(taken):
    """The sum of all integers in all values of a dict."""
    return sum([sum(row) for row in list(taken.values())])


def _added(registers, more):
    """The registers with as much added to each."""
    return tuple([old + more for old in registers])
