"""Isles that are let sleep, or not."""

from duskisles.links import check_isles


def with_sleeps(chip, names, sleeps):
    """The chip in which `sleeps` of these isles is this. Raises NoIsle for the first of any values that is none."""
    check_isles(chip, names)
    isles = [chip[name].changed(sleeps=sleeps) for name in chip.names if name in names]
    return chip.with_isles(*isles)


def with_sleepers(chip, names):
    """The chip in which all isles but these rest. Raises NoIsle for the first of any values that is none."""
    check_isles(chip, names)
    return with_sleeps(chip, [name for name in chip.names if name not in names], False)
