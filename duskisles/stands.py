"""Stands: what a question tells apart of an isle of its cone."""

from duskisles.cones import look_of


def first_stand(chip, question, name):
    """The stand of the beginning."""
    return look_of(chip, question, name).first_stand_of()


def group(chip, question, name, stand):
    """The ascending tuple of the members of the group of a stand."""
    return look_of(chip, question, name).group_of(stand)


def next_stands(chip, question, name, stand):
    """The ascending tuple of the stands to which events that are not silent lead from the group of a stand."""
    return look_of(chip, question, name).onward(stand)


def stands(chip, question, name):
    """Yields the first stand and all next stands, each once."""
    rows = look_of(chip, question, name).every_stand()
    yield from rows


def label(chip, question, name, stand):
    """The label of a stand."""
    return look_of(chip, question, name).label_of(stand)
