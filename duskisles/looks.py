"""Looks: what is read of an isle, and the stands, groups and next stands that come of it.

A stand is told as a number, its code, wherever many are gone through: the phase (as in PHASES), the count, and the
flags clock, shut and away, in 2, 3 and 3 bits. Codes ascend as the tuples do. A flag that is not read stays what it is
at first."""

PHASES = ("asleep", "falling", "up", "waking")
# The phases that are told apart where the phase is read; the others are one. Their numbers are even.
ENDS = ("up", "asleep")
PHASE_AT = {"asleep": 0, "falling": 1, "up": 2, "waking": 3}
READ_WORDS = ("phase", "clock", "shut", "away")
FIRST_CODE = 132

# The flags that a word leaves as they are, and those that it sets.
WORD_FLAGS = {
    "still": (3, 0), "go": (7, 4), "shut": (7, 2), "open": (5, 0), "dark": (7, 1), "lit": (6, 0),
    "save": (7, 0), "reset": (7, 0), "back": (7, 0), None: (7, 0),
}

# Posts, codes without flags, from which the first deeds of the rows are done, and the first ones behind these.
UP = 16
ASLEEP = 0
FALLING = 8
WAKING = 24
# A row without turns has less own states than that, so who meets nothing new behind so many events never does.
MOST_OWN = 24
# What stands for the phases in a weight: up in its bits, asleep in its bits.
PHASE_WEIGHTS = (4294967296, 0, 16777216, 0)


class Look:
    """How much is read of an isle: `read_flags` has True or False for the phase and each of the three flags. `whole`
    isles have no silent events, `awake` ones no events at all. `rows` are its two rows of words, or what is left of
    them; `at` is its index in the chip."""

    def __init__(self, isle, at, read_flags, rows, *, whole, awake):
        self.of_isle = isle
        self.at = at
        self.read_flags = read_flags
        self.whole = whole
        self.awake = awake
        # Where the code of the isle stands in a sum of weights; the least name has the highest place.
        self.shift = 96 - 8 * at
        self.deed_at = {} if awake else _deeds(rows, _flag_bits(read_flags))
        self.turns_at = {} if awake else _turns(isle)
        # What was found already, as the nodes are asked for again and again.
        self.found_nodes = {}
        self.found_stands = {}

    def words(self):
        """The tuple of the words for what is read."""
        return tuple([word for word, is_read in zip(READ_WORDS, self.read_flags) if is_read])

    def nodes(self):
        """A dict from the code of each stand to (phase, links): links has a pair (what its weight grows by, word) for
        each next stand, ascending; word is that of the deed of a whole isle, if one is done, or None."""
        if not self.found_nodes:
            weights = {FIRST_CODE: self.weight_of(FIRST_CODE)}
            ahead = [FIRST_CODE]
            while ahead:
                code = ahead.pop()
                links = []
                for other, word in sorted(self._loud_from(code)):
                    if other not in weights:
                        weights[other] = self.weight_of(other)
                        ahead.append(other)
                    links.append((weights[other] - weights[code], word))
                self.found_nodes[code] = (code >> 6, links)
        return self.found_nodes

    def weight_of(self, code):
        """The number that stands for this stand in a sum over isles: the code in the place of the isle, and from the
        lowest bit on, in 8 bits for 8 isles each: away, shut, clock off, up, asleep."""
        flags = code & 1 | (code & 2) << 7 | (4 - (code & 4)) << 14 | PHASE_WEIGHTS[code >> 6]
        return code << self.shift | flags << self.at

    def code_of(self, stand):
        """The code of a stand."""
        clock = 4 if stand[2] is None or stand[2] else 0
        return PHASE_AT[stand[0]] << 6 | stand[1] << 3 | clock | (2 if stand[3] else 0) | (1 if stand[4] else 0)

    def stand_of(self, code):
        """The stand with a code."""
        if code not in self.found_stands:
            flags = [code & bit > 0 if is_read else None for bit, is_read in zip((4, 2, 1), self.read_flags[1:])]
            self.found_stands[code] = (PHASES[code >> 6], code >> 3 & 7, *flags)
        return self.found_stands[code]

    def weights(self):
        """A dict from each stand to its weight."""
        return {self.stand_of(code): self.weight_of(code) for code in self.nodes()}

    def first_stand_of(self):
        """The stand of the beginning."""
        return self.stand_of(FIRST_CODE)

    def group_of(self, stand):
        """The ascending tuple of the members of the group of a stand."""
        return tuple([self.stand_of(code) for code in sorted(list(self._ways(self.code_of(stand))))])

    def onward(self, stand):
        """The ascending tuple of the next stands."""
        return tuple([self.stand_of(code) for code, _ in sorted(self._loud_from(self.code_of(stand)))])

    def every_stand(self):
        """The list of all stands: the first one, and behind each those of its next ones that were not told yet."""
        met = [FIRST_CODE]
        told = 0
        while told < len(met):
            met.extend([other for other, _ in sorted(self._loud_from(met[told])) if other not in met])
            told += 1
        return [self.stand_of(code) for code in met]

    def events_to(self, code, other):
        """The list of silent events, and at its end one that is not silent, that lead from a stand to a next one, both
        told as codes."""
        ways = self._ways(code)
        for member in ways:
            for event, behind in self._events(member):
                if behind == other and not self._is_silent(member, behind):
                    return [*ways[member], event]
        return []

    def label_of(self, stand):
        """The label of a stand."""
        phase = None
        if self.read_flags[0]:
            phase = stand[0] if stand[0] in ENDS else "between"
        return (phase, *stand[2:])

    def _loud_from(self, code):
        """The list of the pairs (code of a next stand, word of the deed of a whole isle that leads there, or None)."""
        if self.awake:
            return []
        if self.whole:
            return self._moves(code)
        return self._loud_from_group(code) if self.turns_at else self._loud_on_row(code)

    def _loud_on_row(self, code):
        """The same for an isle that is not whole and has no turns."""
        for _ in range(MOST_OWN):
            there, kept, put, _ = self.deed_at[code >> 3]
            other = there | code & kept | put
            if not self._is_silent(code, other):
                return [(other, None)]
            code = other
        return []

    def _loud_from_group(self, code):
        """The same for one that has turns."""
        loud = {}
        met = {code: True}
        ahead = [code]
        while ahead:
            member = ahead.pop()
            for other, _ in self._moves(member):
                if other not in met and other not in loud:
                    if self._is_silent(member, other):
                        met[other] = True
                        ahead.append(other)
                    else:
                        loud[other] = None
        return list(loud.items())

    def _ways(self, code):
        """A dict from each member of the group of a stand to the list of the silent events that lead there."""
        ways = {code: []}
        ahead = [code]
        while ahead:
            member = ahead.pop()
            for event, other in self._events(member):
                if other not in ways and self._is_silent(member, other):
                    ways[other] = [*ways[member], event]
                    ahead.append(other)
        return ways

    def _moves(self, code):
        """The list of the pairs (what is behind it, word or None) for the events of the keeper, as if it were alone."""
        there, kept, put, word = self.deed_at[code >> 3]
        moves = [(there | code & kept | put, word)]
        for post, _ in self.turns_at.get(code >> 3, ()):
            moves.append((post << 3 | code & 7, None))
        return moves

    def _events(self, code):
        """The list of the pairs (event, what is behind it)."""
        if self.awake:
            return []
        name = self.of_isle.name
        events = [("deed", name), *[("turn", name, index) for _, index in self.turns_at.get(code >> 3, [])]]
        return [(event, other) for event, (other, _) in zip(events, self._moves(code))]

    def _is_silent(self, code, other):
        """Whether an event that leads from the one to the other is silent."""
        if self.whole or (code ^ other) & 7:
            return False
        return not self.read_flags[0] or code & other & 64 > 0


def look_on(plan, index, read_flags, rows, *, whole):
    """The look of a plan at the isle with this index, the same one each time."""
    awake = plan.sleepless_mask >> index & 1 == 1
    key = (index, rows, read_flags, whole, awake)
    looks = plan.ground.found_looks
    if key not in looks:
        looks[key] = Look(plan.isle_row[index], index, read_flags, rows, whole=whole, awake=awake)
    return looks[key]


def _flag_bits(read_flags):
    """The flags that are read, as bits."""
    return sum([bit for bit, is_read in zip((4, 2, 1), read_flags[1:]) if is_read])


def _deeds(rows, read_bits):
    """A dict from each post to (there, kept, put, word) for its deed: where it leads, which flags it leaves as they are
    and which it sets, and its word. A row without words leads on by one deed without a word."""
    deeds = {}
    for words, begin, between, end in ((rows[0], UP, FALLING, ASLEEP), (rows[1], ASLEEP, WAKING, UP)):
        post = begin
        left = len(words)
        for word in words if words else (None,):
            left -= 1
            there = end if left <= 0 else between + len(words) - left
            kept, put = WORD_FLAGS[word]
            deeds[post] = (there << 3, kept | 7 - read_bits, put & read_bits, word)
            post = there
        # Only turns lead to a row of which nothing is done.
        deeds[between] = deeds[begin]
    return deeds


def _turns(isle):
    """A dict from posts to the list of the pairs (where it leads, its index) for the turns out of them."""
    turns = {}
    for index, (row, begin, end) in enumerate(isle.turns):
        here, there = (FALLING, WAKING) if row == "sleep" else (WAKING, FALLING)
        turns[here + begin] = [*turns.get(here + begin, []), (there + end, index)]
    return turns
