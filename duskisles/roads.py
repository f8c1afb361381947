"""Roads: all states of a chip that come from the first one, as numbers, and where events lead from each."""

from duskisles.errors import TooMany
from duskisles.moves import events_at, first_state, state_behind


class Roads:
    """The states that come, in the order in which they are met. `tick_rows` has for each state the numbers of the
    states behind its ticks, `move_rows` the pairs (event, number) for its deeds and turns, `ahead_rows` the numbers of
    the states from which deeds and turns lead to it."""

    def __init__(self, plan, most):
        first = first_state(plan)
        self.state_row = [first]
        self.number_of = {first: 0}
        self.tick_rows = []
        self.move_rows = []
        while len(self.tick_rows) < len(self.state_row):
            self._go_on(plan, self.state_row[len(self.tick_rows)], most)
        self.ahead_rows = [[] for _ in self.state_row]
        for number, row in enumerate(self.move_rows):
            for _, other in row:
                self.ahead_rows[other].append(number)

    def distances(self, numbers):
        """A dict from those of these states from which deeds and turns within them lead to a state in which all are up
        to how many it takes at least."""
        some = {number: True for number in numbers}
        level = [number for number in numbers if is_all_up(self.state_row[number])]
        found = {number: 0 for number in level}
        while level:
            fresh = []
            for number in level:
                for other in self.ahead_rows[number]:
                    if other in some and other not in found:
                        found[other] = found[number] + 1
                        fresh.append(other)
            level = fresh
        return found

    def _go_on(self, plan, state, most):
        """Adds the states behind the events of a state, and the rows that tell where they lead."""
        ticks = []
        moves = []
        for event in events_at(plan, state[0]):
            other = state_behind(plan, state, event)
            if other not in self.number_of:
                self.number_of[other] = len(self.state_row)
                self.state_row.append(other)
                if len(self.state_row) > most:
                    raise TooMany(most)
            if event[0] == "tick":
                ticks.append(self.number_of[other])
            else:
                moves.append((event, self.number_of[other]))
        self.tick_rows.append(ticks)
        self.move_rows.append(moves)


def is_all_up(state):
    """Whether all keepers are up in a state."""
    return all([row[0] == "up" for row in state[0]])
