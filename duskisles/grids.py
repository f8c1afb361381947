"""Grids: the rows of a question, and which come behind which.

A row is told as a number: that of its crew, that of its marks in 5 bits, and its held marks in 2 bits each. Numbers
ascend as the rows do."""

from duskisles.crews import SEEN, Crew
from duskisles.errors import TooMany
from duskisles.forms import is_ascending
from duskisles.markrows import DRIVEN, FIRST_MARK, STAYS, mark_number, mark_table, mark_tables, marks_of
from duskisles.scopes import scope_of, scope_on
from duskisles.sights import Sight
from duskisles.tracks import MARK_AT, MARK_WORDS, numbers_behind


class Grid:
    """The rows (stands, marks, held) of a question that looks like this at isles of its cone."""

    def __init__(self, scope, crew, sight):
        self.of_plan = scope.of_plan
        self.crew = crew
        self.sight = sight
        self.whole_at = scope.whole_at
        self.track = scope.track
        # How many bits the held marks have.
        self.low = 0 if scope.track is None else 2 * scope.track.holders
        self.of_isle = None if self.whole_at is None else scope.of_plan.isle_row[self.whole_at]
        self.tables = {} if self.of_isle is None else mark_tables(scope.of_plan.ground, self.of_isle)
        # What was found already, as it is asked for again and again.
        self.found_moves = {}
        self.found_tails = {}
        self.found_held = {}

    def first_row_of(self):
        """The row of the beginning."""
        mark = 0 if self.of_isle is None else FIRST_MARK
        return (self.crew.first_sum() << 5 | mark) << self.low | (1 << self.low) - 1

    def rows_behind(self, row):
        """The list of the next rows of a row."""
        if self.low:
            return [other for other, _ in self.held_behind(row)]
        mark = row & 31
        return [begin | table[mark] for begin, table, _, _ in self.moves_from(row >> 5)]

    def held_behind(self, row):
        """The list of the pairs (next row, whether the question is bad in it) of a row, if a clamp holds."""
        mark = row >> self.low & 31
        held = row & (1 << self.low) - 1
        rows = []
        for begin, table, seen, became in self.moves_from(row >> self.low + 5):
            behind = table[mark]
            key = (seen, DRIVEN[behind], became, held)
            holds, is_bad = self.found_held[key] if key in self.found_held else self._held(key)
            rows.append(((begin | behind) << self.low | holds, is_bad))
        return rows

    def seen_in(self, row):
        """What is seen of the isles in a row."""
        return row >> self.low + 5 & SEEN

    def is_bad_in(self, row):
        """Whether the question is bad in a row."""
        mark = row >> self.low & 31
        seen = row >> self.low + 5 & SEEN
        if self.low:
            return self.sight.is_bad_by(seen, mark, row & (1 << self.low) - 1)
        return mark >= self.sight.kind_of(seen)

    def row_of(self, number):
        """The row with a number."""
        marks = () if self.whole_at is None else marks_of(number >> self.low & 31)
        held = tuple([MARK_WORDS[number >> shift & 3] for shift in range(self.low - 2, -2, -2)])
        return (self.crew.stands_of(number >> self.low + 5), marks, held)

    def number_for(self, row):
        """The number of a row."""
        stands, marks, held = row
        return self.packed(self.crew.sum_of(stands), marks, held)

    def packed(self, number, marks, held):
        """The number of a row with this number of the crew, these marks and these held marks."""
        number = number << 5 | (0 if self.of_isle is None else mark_number(marks))
        for word in held:
            number = number << 2 | MARK_AT[word]
        return number

    def events_between(self, row, other):
        """The list of events that lead from a row to a next one: silent ones, and at its end one that is not."""
        events = self.crew.events_between(row >> self.low + 5, other >> self.low + 5)
        return events if events else [("tick", self.of_isle.name)]

    def moves_from(self, number):
        """The list of (number of the crew and no marks, table of the marks, what is seen, who became shut) for what may
        come behind a number of the crew. If no clamp holds, how bad it is stands in the place of what is seen."""
        if number not in self.found_moves:
            whole_at = self.whole_at
            tails = self.found_tails
            moves = []
            for other, at, word in self.crew.moves_from(number):
                key = (word if at == whole_at else None, other & SEEN)
                table, seen = tails[key] if key in tails else self._tail(key)
                moves.append((other << 5, table, seen, (other & ~number) >> 8 & 255))
            if self.of_isle is not None and not number >> 16 + whole_at & 1:
                moves.append((number << 5, *self._tail(("tick", number & SEEN)), 0))
            self.found_moves[number] = moves
        return self.found_moves[number]

    def _tail(self, key):
        """(table of the marks, what is seen or how bad it is) for an event that does this to the full isle, or nothing,
        and behind which this is seen: word and seen are a key."""
        if key not in self.found_tails:
            word, seen = key
            self.found_tails[key] = (self._table(word, seen & 255), seen if self.low else self.sight.kind_of(seen))
        return self.found_tails[key]

    def _table(self, word, away):
        """What becomes of the marks by an event that does this to the full isle, or nothing, behind which these isles
        are away."""
        if self.of_isle is None:
            return STAYS
        key = (word, self.of_plan.dim_of(self.whole_at, away))
        if key not in self.tables:
            self.tables[key] = mark_table(self.of_isle, *key)
        return self.tables[key]

    def _held(self, key):
        """(number of the held marks, whether the question is bad) behind an event: key tells what is seen, the number
        of the mark behind the driver, who became shut, and what was held."""
        seen, driven, became, held = key
        dark = self.of_plan.dark_mask(seen & 255)
        holds, end = numbers_behind(self.sight.step_row, driven, dark, seen >> 8 & 255, became, held)
        self.found_held[key] = (holds, end != 0 and not seen & self.sight.off_bits)
        return self.found_held[key]


def grid_of(chip, question):
    """The grid of the rows of the table of a question, any value."""
    return grid_in(scope_of(chip, question), {})


def grid_on(plan, question):
    """The grid of the rows of the table of a question of a plan."""
    return grid_in(scope_on(plan, question), {})


def grid_in(scope, crews):
    """The grid of the rows of a scope. `crews` is a dict in which grids on the same ground keep their crews."""
    key = scope.sign()
    if key not in crews:
        crews[key] = Crew(scope.looks(), scope.of_plan.need_masks)
    return Grid(scope, crews[key], Sight(scope, [0]))


def whole_grid_of(chip, question):
    """The grid of the states of the cone of a question, any value."""
    scope = scope_of(chip, question)
    return Grid(scope, Crew(scope.whole_looks(), scope.of_plan.need_masks), Sight(scope, [0]))


def rows_that_come(grid, most):
    """A pair: a dict from each row that comes to the one ahead of it, those by fewer steps first, and the first of
    these rows in which the question is bad, or None. Raises TooMany(most) if there are more rows than that."""
    begin = grid.first_row_of()
    ahead = {begin: None}
    level = [begin]
    bad = None
    while level:
        fresh = []
        for row in level:
            if grid.is_bad_in(row):
                bad = row if bad is None else bad
            else:
                for other in grid.rows_behind(row):
                    if other not in ahead:
                        ahead[other] = row
                        fresh.append(other)
                        if len(ahead) > most:
                            raise TooMany(most)
        level = fresh
    return ahead, bad


def first_bad(grid):
    """The same pair, but with no more rows than it takes to come to the first bad one."""
    begin = grid.first_row_of()
    ahead = {begin: None}
    # The first row may be bad where isles are left out.
    bad = begin if grid.is_bad_in(begin) else None
    queue = [begin]
    told = 0
    while bad is None and told < len(queue):
        bad = _first_bad_behind(grid, queue[told], ahead, queue)
        told += 1
    return ahead, bad


def _first_bad_behind(grid, row, ahead, queue):
    """The first bad row of the next rows of a row that were not met yet, or None; puts them among those that were."""
    if grid.low:
        for other, is_bad in grid.held_behind(row):
            if other not in ahead:
                ahead[other] = row
                queue.append(other)
                if is_bad:
                    return other
        return None
    mark = row & 31
    for begin, table, kind, _ in grid.moves_from(row >> 5):
        behind = table[mark]
        other = begin | behind
        if other not in ahead:
            ahead[other] = row
            queue.append(other)
            if behind >= kind:
                return other
    return None


def shows_safe(grid, rows):
    """Whether these rows, a list of numbers, are ascending, have the first row and with each row all next rows, and
    none of them is bad."""
    known = {row: True for row in rows}
    if not is_ascending(rows) or grid.first_row_of() not in known:
        return False
    for row in rows:
        if grid.is_bad_in(row) or not all([other in known for other in grid.rows_behind(row)]):
            return False
    return True


def events_up_to(grid, ahead, row):
    """The list of the events by which a row comes, if these rows stand ahead of one another."""
    runs = []
    while ahead[row] is not None:
        runs.append(grid.events_between(ahead[row], row))
        row = ahead[row]
    return [event for run in runs[::-1] for event in run]
