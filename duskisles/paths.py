"""Paths from name to name. What comes next is told by a dict from each name to a row of names."""


def least_path(start, goals, onward):
    """The shortest tuple of names from the start to one of the goals, of several the least; None if there is none."""
    paths = [(start,)]
    met = [start]
    while paths:
        for path in paths:
            if path[-1] in goals:
                return path
        paths = _longer(paths, met, onward)
        met.extend([path[-1] for path in paths])
    return None


def _longer(paths, met, onward):
    """The paths that are one name longer and end with one that was not met: of each end the least, ascending."""
    # The paths are ascending, so the first one that comes to an end is the least one.
    longer = []
    ends = list(met)
    for path in paths:
        for name in sorted(onward[path[-1]]):
            if name not in ends:
                ends.append(name)
                longer.append((*path, name))
    return longer
