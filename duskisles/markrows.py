"""Marks of an isle as numbers, and what events make of them.

A number is the index of the marks (kept, plain, shadow) in MARK_ROW, so numbers ascend as the marks do. From 3 on, kept
or plain is not clean."""

MARK_ROW = (
    ("clean", "clean", "dust"), ("clean", "clean", "older"), ("clean", "clean", "same"),
    ("clean", "dust", "dust"), ("clean", "dust", "older"), ("clean", "dust", "same"),
    ("dust", "clean", "dust"), ("dust", "clean", "older"), ("dust", "clean", "same"),
    ("dust", "dust", "dust"), ("dust", "dust", "older"), ("dust", "dust", "same"),
    ("older", "clean", "dust"), ("older", "clean", "older"), ("older", "clean", "same"),
    ("older", "dust", "dust"), ("older", "dust", "older"), ("older", "dust", "same"),
)
FIRST_MARK = 2

# For each of the marks what an isle that is not dark has behind a word, or behind a tick.
BEHIND_WORDS = {
    "save": (2, 2, 2, 5, 5, 5, 6, 6, 6, 9, 9, 9, 13, 13, 13, 16, 16, 16),
    "reset": (0, 1, 2, 0, 1, 2, 6, 7, 8, 6, 7, 8, 12, 13, 14, 12, 13, 14),
    "back": (6, 13, 2, 9, 16, 5, 6, 13, 2, 9, 16, 5, 6, 13, 2, 9, 16, 5),
    "tick": (0, 1, 1, 3, 4, 4, 6, 7, 7, 9, 10, 10, 12, 13, 13, 15, 16, 16),
}
STAYS = (0, 1, 2, 3, 4, 5, 6, 7, 8, 9, 10, 11, 12, 13, 14, 15, 16, 17)
# The same of an isle that is dark: kept and plain are dust; and then the shadow is, too.
IN_DARK = (9, 10, 11, 9, 10, 11, 9, 10, 11, 9, 10, 11, 9, 10, 11, 9, 10, 11)
ALL_DUST = (9, 9, 9, 9, 9, 9, 9, 9, 9, 9, 9, 9, 9, 9, 9, 9, 9, 9)
# What is left of them if the isle has no kept registers, or no plain ones.
WITHOUT_KEPT = (2, 2, 2, 5, 5, 5, 2, 2, 2, 5, 5, 5, 2, 2, 2, 5, 5, 5)
WITHOUT_PLAIN = (0, 1, 2, 0, 1, 2, 6, 7, 8, 6, 7, 8, 12, 13, 14, 12, 13, 14)
# The number of the mark behind a driver that has these marks.
DRIVEN = (0, 0, 0, 1, 1, 1, 1, 1, 1, 1, 1, 1, 2, 2, 2, 1, 1, 1)


def mark_number(marks):
    """The number of these marks."""
    return MARK_ROW.index(marks)


def marks_of(number):
    """The marks with a number."""
    return MARK_ROW[number]


def mark_tables(ground, isle):
    """A dict for the tables of an isle by word and dim, the same one for isles that are alike in this."""
    return ground.found_tables.setdefault((isle.kept > 0, isle.plain > 0), {})


def mark_table(isle, word, dim):
    """For each of the marks what an isle has behind an event that does this to it (None: nothing), if behind it the
    isle is not dark (`dim` is 0), is dark (1), or its leash is dusty, too (2)."""
    if dim:
        table = ALL_DUST if dim == 2 or word == "save" else IN_DARK
    else:
        table = BEHIND_WORDS.get(word, STAYS)
    if not isle.kept:
        table = [WITHOUT_KEPT[number] for number in table]
    return table if isle.plain else [WITHOUT_PLAIN[number] for number in table]
