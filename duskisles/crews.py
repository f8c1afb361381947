"""Crews: the isles of a cone, with how each is looked at, and which of their stands come behind which."""


class Crew:
    """The isles of a cone, by names. Only the needs among them hinder a keeper."""

    def __init__(self, looks):
        self.looks = looks
        self.isle_names = [look.of_isle.name for look in looks]
        self.need_rows = [[self.isle_names.index(name) for name in look.of_isle.needs] for look in looks]
        self.needing_rows = [[other for other, row in enumerate(self.need_rows) if at in row]
                             for at, _ in enumerate(looks)]

    def first_stands(self):
        """The tuple of the stands of the beginning."""
        return tuple([look.first_stand_of() for look in self.looks])

    def known_stands(self):
        """For each isle a dict that has all its stands as keys."""
        return [{stand: True for stand in look.every_stand()} for look in self.looks]

    def moves_from(self, stands):
        """The list of (index of an isle, next stand, word) for what may come behind these stands."""
        return [(at, other, word) for at, look in enumerate(self.looks) if self._lets(stands, at)
                for other, word in look.steps_from(stands[at])]

    def events_between(self, stands, others):
        """The list of events by which the one isle goes on whose stand is another one behind them: silent events, and
        at the end one that is not."""
        for look, stand, other in zip(self.looks, stands, others):
            if stand != other:
                return look.events_to(stand, other)
        return []

    def _lets(self, stands, at):
        """Whether the isle with this index may go on as far as the needs within the cone go."""
        phase = stands[at][0]
        if phase == "up":
            return all([stands[other][0] == "asleep" for other in self.needing_rows[at]])
        if phase == "asleep":
            return all([stands[other][0] == "up" for other in self.need_rows[at]])
        return True
