"""Which isles a question asks for, and what it reads of them."""

from duskisles.errors import NoIsle
from duskisles.scopes import scope_of


def cone(chip, question):
    """The ascending tuple of the isles of the cone of a question, any value."""
    return scope_of(chip, question).cone_names()


def full(chip, question):
    """The name of the full isle of a question, any value, or None."""
    return scope_of(chip, question).whole_name()


def reads(chip, question, name):
    """The tuple of the words for what a question reads of an isle of its cone; both are any values."""
    return look_of(chip, question, name).words()


def look_of(chip, question, name):
    """How a question looks at an isle of its cone; both are any values."""
    scope = scope_of(chip, question)
    names = scope.cone_names()
    if name not in names:
        raise NoIsle(name)
    return scope.looks()[names.index(name)]
