"""Sources: the spots over which dust comes to where a question asks, whatever the marks of the full isle are.

Sets of spots are bits: those of the spots that are not propped."""


class Sources:
    """The ways of dust to the end of a wire, or to an isle. `spot_row` has (bit, spot, isle) for the spots that the
    question of the scope asks for; `seen_row` is all that can be seen of isles that hang together."""

    def __init__(self, scope, spot_row, seen_row):
        bits = scope.of_plan.bits
        self.leash_row = [(bit, bits[spot[1]], isle) for bit, spot, isle in spot_row if spot[0] == "leash"]
        # Pairs (begins, isles): dust comes if an isle of `begins`, pairs (isle, bit of its spot), is dark by one of
        # these isles, as they can be away while nothing stands in its way.
        self.source_row = _sources(scope, spot_row, seen_row)

    def way(self, left):
        """Spots of these over which dust comes, or None if it does not."""
        for begins, isles in self.source_row:
            for isle, spot in begins:
                if spot & left == spot:
                    leashes = self._leashes(isle, isles, left)
                    if leashes is not None:
                        return spot | leashes
        return None

    def _leashes(self, begin, isles, left):
        """The spots of a shortest way of leashes from this isle to one of these, or None."""
        ways = {begin: 0}
        ahead = [begin]
        while ahead:
            isle = ahead.pop(0)
            if isle & isles:
                return ways[isle]
            for bit, here, other in self.leash_row:
                if here == isle and left & bit and other not in ways:
                    ways[other] = ways[isle] | bit
                    ahead.append(other)
        return None


def _sources(scope, spot_row, seen_row):
    """The pairs (begins, isles) for the stations, the last one first, then for the full isle."""
    whole = 0 if scope.whole_at is None else 1 << scope.whole_at
    if scope.track is None:
        return [([(whole, 0)], _away_while(seen_row, whole << 16))]
    rows = []
    # What comes to the end needs a reader whose clock is on, and no clamp behind it that is shut.
    hinders = scope.read_bits[0] << 16
    for index in range(len(scope.track.stops) - 1, -1, -1):
        begins = [(isle, bit) for bit, spot, isle in spot_row if spot[0] != "leash" and spot[2] == index]
        rows.append((begins, _away_while(seen_row, hinders)))
        hinders = hinders | scope.track.stops[index][2] << 8
    rows.append(([(whole, 0)] if whole else [], _away_while(seen_row, hinders)))
    return [(begins, isles) for begins, isles in rows if begins and isles]


def _away_while(seen_row, hinders):
    """The isles that can be away while nothing of this is seen."""
    isles = 0
    for seen in seen_row:
        if not seen & hinders:
            isles = isles | seen & 255
    return isles
