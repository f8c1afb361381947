"""Faces: what is left of an isle of a cone if the words of its rows are forgotten."""

from duskisles.cones import full, look_of
from duskisles.errors import NoIsle


def face(chip, question, name):
    """The face of an isle of the cone of a question, not the full one; both are any values."""
    if full(chip, question) == name:
        raise NoIsle(name)
    look = look_of(chip, question, name)
    stands = look.every_stand()
    labels = {stand: look.label_of(stand) for stand in stands}
    onward = {stand: sorted(look.onward(stand), key=lambda other: labels[other]) for stand in stands}
    kinds = _kinds(stands, labels, onward)
    return _told(stands[0], kinds, labels, onward)


def fits(chip, question, isle):
    """Whether an isle has leash, needs, sleeps and face of the isle of its name."""
    told = face(chip, question, isle.name)
    old = chip[isle.name]
    if (isle.leash, isle.needs, isle.sleeps) != (old.leash, old.needs, old.sleeps):
        return False
    return face(chip.with_isles(isle), question, isle.name) == told


def _kinds(stands, labels, onward):
    """A dict from stands to numbers, equal ones for stands from which the same labels can go out again and again."""
    kinds = _numbered({stand: labels[stand] for stand in stands})
    many = 0
    # Each round tells apart what one more step tells apart, until there is nothing more.
    while many < len(set(list(kinds.values()))):
        many = len(set(list(kinds.values())))
        kinds = _numbered({stand: (kinds[stand], *[kinds[other] for other in onward[stand]]) for stand in stands})
    return kinds


def _numbered(signs):
    """The dict with numbers in the place of its values, equal ones for equal values."""
    numbers = {}
    for sign in list(signs.values()):
        numbers[sign] = numbers.get(sign, len(numbers))
    return {stand: numbers[sign] for stand, sign in signs.items()}


def _told(first, kinds, labels, onward):
    """The pairs of a face, in the order in which they are met."""
    met = [first]
    indexes = {kinds[first]: 0}
    pairs = []
    while len(pairs) < len(met):
        stand = met[len(pairs)]
        for other in onward[stand]:
            if kinds[other] not in indexes:
                indexes[kinds[other]] = len(met)
                met.append(other)
        pairs.append((labels[stand], tuple([indexes[kinds[other]] for other in onward[stand]])))
    return tuple(pairs)
