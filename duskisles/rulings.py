"""Rulings: which of the states that come are let, and in which rounds the others are refused."""

from duskisles.questions import faults_of


class Ruling:
    """The let states among those that come, as numbers. `round_row` has the lists of those that are refused, round by
    round, each with a word: what is "bad" by itself, what a "tick" leads to an earlier round, and what is "stuck", as
    no deeds and turns lead out of it and the earlier rounds."""

    def __init__(self, plan, roads):
        self.of_roads = roads
        self.round_row = []
        self.round_of = {}
        left = list(range(len(roads.state_row)))
        word, gone = ("bad", [number for number in left if faults_of(plan, roads.state_row[number])])
        while gone:
            self.round_of.update({number: len(self.round_row) for number in gone})
            self.round_row.append((word, gone))
            left = [number for number in left if number not in self.round_of]
            word, gone = self._next_round(left)
        # How many deeds and turns it takes at least from each let state to one in which all are up.
        self.home_steps = roads.distances(left)

    def refusal_of(self, number):
        """The list of the rounds that refuse a state, each the list of those of its states that are needed for it."""
        wanted = {number: True}
        rounds = []
        for index in range(self.round_of[number], -1, -1):
            word, gone = self.round_row[index]
            row = [other for other in gone if other in wanted]
            if row:
                rounds.append(self._widened(word, index, row, wanted))
        return rounds[::-1]

    def _next_round(self, left):
        """(word, numbers) of the states that are refused next if these are left."""
        gone = [number for number in left if any([other in self.round_of for other in self.of_roads.tick_rows[number]])]
        if gone:
            return ("tick", gone)
        found = self.of_roads.distances(left)
        return ("stuck", [number for number in left if number not in found])

    def _widened(self, word, index, row, wanted):
        """The list of the states of a round that are needed if these are; marks as wanted what they need of earlier
        rounds."""
        told = []
        ahead = list(row)
        while ahead:
            number = ahead.pop()
            told.append(number)
            for other in self._witnesses(word, index, number):
                if other not in wanted:
                    wanted[other] = True
                    if self.round_of[other] == index:
                        ahead.append(other)
        return told

    def _witnesses(self, word, index, number):
        """The states that show that a state belongs to a round."""
        if word == "bad":
            return []
        if word == "tick":
            return [other for other in self.of_roads.tick_rows[number] if self.round_of.get(other, index) < index][:1]
        return [other for _, other in self.of_roads.move_rows[number]]
