"""How the isles of a chip hang together, as dicts from names to rows of names, and names that are checked."""

from duskisles.errors import NoIsle


def check_isles(chip, names):
    """Raises NoIsle for the first of any values that is not the name of an isle."""
    for name in names:
        if name not in chip:
            raise NoIsle(name)


def leashes(chip):
    """For each isle those of its leash."""
    return {name: chip[name].leash for name in chip.names}


def needed(chip):
    """For each isle those that it needs."""
    return {name: chip[name].needs for name in chip.names}


def needing(chip):
    """For each isle those that need it, by names."""
    return {name: [other for other in chip.names if name in chip[other].needs] for name in chip.names}
