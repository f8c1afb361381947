"""Crews: isles that are looked at together, and which of their stands come behind which.

What they all do is one number, the sum of the weights of their stands."""

from duskisles.looks import FIRST_CODE

# The bits of the number of a crew that tell what is seen of the isles.
SEEN = 16777215


class Crew:
    """Isles, by names. Only the needs among them hinder a keeper; `need_masks` tells those of all isles of the chip."""

    def __init__(self, looks, need_masks):
        self.look_row = looks
        self.isle_names = [look.of_isle.name for look in looks]
        isle_bits = sum([1 << look.at for look in looks])
        # What was found already, as it is asked for again and again.
        self.found_moves = {}
        self.found_stands = {}
        self.found_seen = []
        self.parts = [(look.at, look.shift, look.nodes(), _wants(look.at, need_masks, isle_bits)) for look in looks]

    def first_sum(self):
        """The number of the beginning."""
        return sum([look.weight_of(FIRST_CODE) for look in self.look_row])

    def sum_of(self, stands):
        """The number of these stands, by names."""
        return sum([look.weight_of(look.code_of(stand)) for look, stand in zip(self.look_row, stands)])

    def stands_of(self, number):
        """The tuple of the stands with this number."""
        if number not in self.found_stands:
            self.found_stands[number] = tuple([look.stand_of(number >> look.shift & 255) for look in self.look_row])
        return self.found_stands[number]

    def known_stands(self):
        """For each isle a dict from all its stands to their weights."""
        return [look.weights() for look in self.look_row]

    def moves_from(self, number):
        """The list of (number behind it, index of the isle in the chip, word) for what may come, by isles."""
        if number not in self.found_moves:
            moves = []
            for at, shift, nodes, wants in self.parts:
                phase, links = nodes[number >> shift & 255]
                if number & wants[phase] == wants[phase]:
                    moves.extend([(number + grows, at, word) for grows, word in links])
            self.found_moves[number] = moves
        return self.found_moves[number]

    def every_seen(self):
        """The list of all that can be seen of the isles."""
        if not self.found_seen:
            ahead = [self.first_sum()]
            met = {ahead[0]: True}
            while ahead:
                moves = self.moves_from(ahead.pop())
                for other, _, _ in moves:
                    if other not in met:
                        met[other] = True
                        ahead.append(other)
            self.found_seen.extend(sorted({number & SEEN for number in met}))
        return self.found_seen

    def events_between(self, number, other):
        """The list of events by which the one isle goes on whose stand is another one behind them: silent events, and
        at the end one that is not."""
        for look in self.look_row:
            code = number >> look.shift & 255
            behind = other >> look.shift & 255
            if code != behind:
                return look.events_to(code, behind)
        return []


def _wants(at, need_masks, isle_bits):
    """For each phase, as a number, the bits that the number of a crew must have for an isle to go on: those that it
    needs are up if it is asleep, those that need it are asleep if it is up."""
    needs = need_masks[at] & isle_bits
    needing = sum([1 << other for other, mask in enumerate(need_masks)
                   if isle_bits >> other & 1 and mask >> at & 1])
    return (needs << 24, 0, needing << 32, 0)
