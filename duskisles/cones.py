"""Which isles a question asks for, and what it reads of them."""

from duskisles.errors import NoIsle
from duskisles.scopes import Scope


def cone(chip, question):
    """The ascending tuple of the isles of the cone of a question, any value."""
    return Scope(chip, question).cone_names()


def full(chip, question):
    """The name of the full isle of a question, any value, or None."""
    return Scope(chip, question).whole_name()


def reads(chip, question, name):
    """The tuple of the words for what a question reads of an isle of its cone; both are any values."""
    return look_of(chip, question, name).words()


def look_of(chip, question, name):
    """How a question looks at an isle of its cone; both are any values."""
    scope = Scope(chip, question)
    # Names are compared as strings: the tuple has nothing that another value could be equal to.
    if name not in scope.cone_names():
        raise NoIsle(name)
    return scope.look_at(name)
