"""Spots: where the power of isles is used for lines and stations, and what is powered by the shore instead."""

from duskisles.props import spot_row, with_propped


def spots(chip):
    """The ascending tuple of all spots of a chip."""
    return spot_row(chip)


def propped(chip, *spots):
    """The chip with these spots, any values, propped, all at once."""
    return with_propped(chip, spots)
