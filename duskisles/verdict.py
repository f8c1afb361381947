"""The verdict on a chip: tables for all its questions, or a run at whose end one is bad."""

from duskisles.forms import is_tuple
from duskisles.judge import judged
from duskisles.runcheck import lets_run
from duskisles.tablecheck import lets_table


def verdict(chip, *, most=20000):
    """("safe", tables) with the least table of each question, or ("bad", question, events) for the first bad one."""
    tables = []
    for question in chip.questions:
        word, found = judged(chip, question, most=most)
        if word == "bad":
            return ("bad", question, found)
        tables.append((question, found))
    return ("safe", tuple(tables))


def lets_verdict(chip, thing):
    """Whether any value is a right verdict, with any tables or any run."""
    if is_tuple(thing, 2) and thing[0] == "safe":
        return lets_tables(chip, thing[1])
    return is_tuple(thing, 3) and thing[0] == "bad" and lets_harm(chip, thing[1], thing[2])


def is_safe(chip, *, most=20000):
    """Whether a chip is safe."""
    return verdict(chip, most=most)[0] == "safe"


def lets_tables(chip, value):
    """Whether any value is a tuple with a pair (question, table) for each question, in order."""
    if not is_tuple(value, len(chip.questions)):
        return False
    return all([is_tuple(pair, 2) and pair[0] == question and lets_table(chip, question, pair[1])
                for pair, question in zip(value, chip.questions)])


def lets_harm(chip, question, events):
    """Whether any values are a question of the chip and a run at whose end it is bad for the first time."""
    return question in chip.questions and lets_run(chip, question, events)
