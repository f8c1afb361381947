"""Rounds: an isle without turns that goes to sleep and wakes again and again, while nothing else changes its marks."""

from duskisles.looks import WORD_FLAGS
from duskisles.markrows import BEHIND_WORDS, FIRST_MARK, mark_table, mark_tables
from duskisles.sights import ALWAYS_BAD

# The flags clock, shut and away, in 4, 2 and 1, that an isle has at first.
FIRST_FLAGS = 4


class Rounds:
    """The full isle of a question. All marks that it can have at a post are one ascending tuple of numbers."""

    def __init__(self, plan, sight):
        self.at = sight.whole_at
        self.of_isle = plan.isle_row[self.at]
        self.tables = mark_tables(plan.ground, self.of_isle)
        self.sight = sight
        # How dim it is if the isle is away: its leash may run over one whose leash runs over the isle.
        self.dim = plan.dim_of(self.at, 1 << self.at)
        # What becomes of marks is the same in all rounds of isles that are alike in having kept and plain registers.
        self.found_marks = plan.ground.found_marks.setdefault((self.of_isle.kept > 0, self.of_isle.plain > 0), {})
        self.found_kinds = {}
        self.found_rows = {}

    def are_bad(self, sleep, wake):
        """Whether the question is bad at any time if the words of the isle that matter stand in these rows."""
        if self._kind(FIRST_FLAGS) == ALWAYS_BAD:
            return True
        now = (FIRST_FLAGS, self._ticked([FIRST_MARK]))
        met = []
        while now is not None and now not in met:
            met.append(now)
            asleep = self._behind(sleep, now)
            now = None if asleep is None else self._behind(wake, asleep)
        return now is None

    def _behind(self, words, now):
        """The flags and the marks behind a row if these are ahead of it, or None if the question is bad on the way."""
        key = (words, now)
        if key not in self.found_rows:
            self.found_rows[key] = self._behind_words(words, *now)
        return self.found_rows[key]

    def _behind_words(self, words, flags, marks):
        """The same, as it is found."""
        for word in words:
            kept, put = WORD_FLAGS[word]
            flags = flags & kept | put
            key = (word, flags & 4, self.dim if flags & 1 else 0, marks)
            marks = self.found_marks[key] if key in self.found_marks else self._marks_behind(key)
            kind = self.found_kinds[flags] if flags in self.found_kinds else self._kind(flags)
            if marks[-1] >= kind:
                return None
        return (flags, marks)

    def _marks_behind(self, key):
        """The marks that there can be behind a word, and behind ticks if the clock is on: a key has the word, the
        clock, how dim it is behind it, and the marks that there can be ahead of it."""
        word, clock, dim, marks = key
        if (word, dim) not in self.tables:
            self.tables[(word, dim)] = mark_table(self.of_isle, word, dim)
        table = self.tables[(word, dim)]
        behind = [table[mark] for mark in marks]
        self.found_marks[key] = self._ticked(behind) if clock and not dim else tuple(sorted(set(behind)))
        return self.found_marks[key]

    def _ticked(self, marks):
        """The ascending tuple of these marks and those behind ticks."""
        table = BEHIND_WORDS["tick"]
        ticked = [table[mark] for mark in marks] if self.of_isle.kept else []
        return tuple(sorted(set([*marks, *ticked])))

    def _kind(self, flags):
        """How bad the question is while the isle has these flags."""
        if flags not in self.found_kinds:
            seen = flags & 1 | (flags & 2) << 7 | (4 - (flags & 4)) << 14
            self.found_kinds[flags] = self.sight.kind_of(seen << self.at)
        return self.found_kinds[flags]
