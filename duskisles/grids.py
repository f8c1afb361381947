"""Grids: the rows of a question, and which come behind which."""

from duskisles.crews import Crew
from duskisles.errors import TooMany
from duskisles.forms import is_ascending
from duskisles.moves import FIRST_MARKS, marks_behind
from duskisles.questions import isle_faults
from duskisles.scopes import scope_of
from duskisles.tracks import begin_mark


class Grid:
    """The rows (stands, marks, held) of a question that looks like this at the isles of its cone."""

    def __init__(self, scope, looks):
        plan = scope.of_plan
        self.of_plan = plan
        self.crew = Crew(looks)
        self.track = scope.track
        names = self.crew.isle_names
        self.bit_row = [plan.bits[name] for name in names]
        whole = scope.whole_name()
        self.whole_at = None if whole is None else names.index(whole)
        reader = None if self.track is None else self.track.to_place
        self.reader_at = names.index(reader) if reader in names else None

    def first_row_of(self):
        """The row of the beginning."""
        held = () if self.track is None else ("open",) * self.track.holders
        return (self.crew.first_stands(), () if self.whole_at is None else FIRST_MARKS, held)

    def rows_behind(self, row):
        """The list of the next rows of a row."""
        stands = row[0]
        rows = [self._behind(row, at, other, word) for at, other, word in self.crew.moves_from(stands)]
        if self.whole_at is not None and stands[self.whole_at][2]:
            rows.append(self._behind(row, self.whole_at, stands[self.whole_at], "tick"))
        return rows

    def is_bad_in(self, row):
        """Whether the question is bad in a row."""
        stands, marks, held = row
        away, shut = self._masks(stands)
        dark = self.of_plan.dark_mask(away)
        if self.track is None:
            is_dark = dark & self.bit_row[self.whole_at]
            return len(isle_faults(stands[self.whole_at][2], marks, is_dark)) > 0
        if self.reader_at is not None and not stands[self.reader_at][2]:
            return False
        return self.track.end_mark(self._driver_mark(marks, dark), dark, shut, held) != "clean"

    def events_between(self, row, other):
        """The list of events that lead from a row to a next one: silent ones, and at its end one that is not."""
        events = self.crew.events_between(row[0], other[0])
        return events if events else [("tick", self.crew.isle_names[self.whole_at])]

    def _masks(self, stands):
        """The isles that are away and those that are shut, as far as this is read."""
        away = shut = 0
        for bit, stand in zip(self.bit_row, stands):
            if stand[4]:
                away = away | bit
            if stand[3]:
                shut = shut | bit
        return away, shut

    def _behind(self, row, at, other, word):
        """The row behind an event by which the isle with this index in the cone comes to a stand."""
        old, marks, held = row
        stands = (*old[:at], other, *old[at + 1:])
        away, shut = self._masks(stands)
        dark = self.of_plan.dark_mask(away)
        if self.whole_at is not None:
            marks = self._marks_behind(marks, word if at == self.whole_at else None, dark)
        if held:
            became = self.bit_row[at] if other[3] and not old[at][3] else 0
            held = tuple(self.track.held_behind(self._driver_mark(marks, dark), dark, shut, became, held))
        return (stands, marks, held)

    def _marks_behind(self, marks, word, dark):
        """The marks of the full isle behind an event that does this to it."""
        bit = self.bit_row[self.whole_at]
        if word is None and not dark & bit:
            return marks
        isle = self.crew.looks[self.whole_at].of_isle
        leash = self.of_plan.leash_masks[self.of_plan.index_of[isle.name]]
        return marks_behind(isle, marks, word, dark & bit, dark & leash)

    def _driver_mark(self, marks, dark):
        """The mark behind the driver of the wire."""
        if self.whole_at is None:
            return "clean"
        return begin_mark(marks[0], marks[1], dark & self.bit_row[self.whole_at])


def grid_of(chip, question):
    """The grid of the rows of the table of a question, any value."""
    scope = scope_of(chip, question)
    return Grid(scope, scope.looks)


def whole_grid_of(chip, question):
    """The grid of the states of the cone of a question, any value."""
    scope = scope_of(chip, question)
    return Grid(scope, scope.whole_looks())


def rows_that_come(grid, most):
    """A pair: a dict from each row that comes to the one ahead of it, those by fewer steps first, and the first of
    these rows in which the question is bad, or None. Raises TooMany(most) if there are more rows than that."""
    begin = grid.first_row_of()
    ahead = {begin: None}
    level = [begin]
    bad = None
    while level:
        fresh = []
        for row in level:
            if grid.is_bad_in(row):
                bad = row if bad is None else bad
            else:
                for other in grid.rows_behind(row):
                    if other not in ahead:
                        ahead[other] = row
                        fresh.append(other)
                        if len(ahead) > most:
                            raise TooMany(most)
        level = fresh
    return ahead, bad


def shows_safe(grid, rows):
    """Whether these rows, a tuple, are ascending, have the first row and with each row all next rows, and none of them
    is bad."""
    known = {row: True for row in rows}
    if not is_ascending(rows) or grid.first_row_of() not in known:
        return False
    for row in rows:
        if grid.is_bad_in(row) or not all([other in known for other in grid.rows_behind(row)]):
            return False
    return True


def events_up_to(grid, ahead, row):
    """The list of the events by which a row comes, if these rows stand ahead of one another."""
    runs = []
    while ahead[row] is not None:
        runs.append(grid.events_between(ahead[row], row))
        row = ahead[row]
    return [event for run in runs[::-1] for event in run]
