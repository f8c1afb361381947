"""Which isles are dark, and which leads are dusty by that."""

from duskisles.links import check_isles, leashes
from duskisles.paths import least_path
from duskisles.tracks import mask_of


def dark_isles(chip, away):
    """The ascending tuple of the isles that are dark if exactly these are away."""
    check_isles(chip, away)
    plan = chip.plan()
    return plan.names_in(plan.dark_mask(mask_of(away, plan.bits)))


def dusty(lead, dark):
    """Whether a lead is dusty if these isles are dark."""
    return any([name in dark for name in lead])


def way(chip, away, name):
    """The shortest tuple of isles from this one over leashes to one that is away, of several the least, or None."""
    check_isles(chip, away)
    check_isles(chip, (name,))
    return least_path(name, away, leashes(chip))


def under(chip, *names):
    """The ascending tuple of these isles and of all to which ways of leashes lead from them."""
    check_isles(chip, names)
    plan = chip.plan()
    return plan.names_in(plan.closed(mask_of(names, plan.bits), plan.under_masks))


def dusty_leads(chip, away):
    """Yields the leashes, then the lines, that are dusty if exactly these isles are away."""
    dark = dark_isles(chip, away)
    rows = [("leash", name) for name in chip.names if dusty(chip[name].leash, dark)]
    for name in chip.wires:
        stations = chip.wire(name).stations
        rows.extend([("line", name, index) for index, station in enumerate(stations) if dusty(station.line, dark)])
    yield from rows
