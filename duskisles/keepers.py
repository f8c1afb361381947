"""Keepers: they carry out the deeds and turns of an isle."""

from duskisles.errors import InvalidEvent, NoState, NotNow
from duskisles.names import is_integer
from duskisles.posts import FIRST_OWN, behind_event, is_keeper_event, keeper_options, next_word


class Keeper:
    """The keeper of an isle by itself; it does not ask what other isles need."""

    def __init__(self, isle):
        self._isle = isle
        self._own = FIRST_OWN

    @property
    def isle(self):
        """The isle."""
        return self._isle

    @property
    def post(self):
        """The pair of phase and count."""
        return self._own[:2]

    @property
    def flags(self):
        """The tuple (clock, shut, away)."""
        return self._own[2:]

    @property
    def own(self):
        """The own state (phase, count, clock, shut, away)."""
        return self._own

    @own.setter
    def own(self, value):
        self.set_own(value)

    def set_own(self, value):
        """Puts the keeper into an own state to which events lead."""
        if not _has_own_form(value) or value not in own_states(self._isle):
            raise NoState(value)
        self._own = value

    def options(self):
        """The tuple of the events that can be next: the deed, then the turns out of this post."""
        return keeper_options(self._isle, self._own)

    def __call__(self, event):
        """Whether any value is an event that can be next."""
        return is_keeper_event(self._isle, event) and event in self.options()

    def do(self, *events):
        """Does these events, all or none; returns the tuple of the words of the deeds."""
        for index, event in enumerate(events):
            if not is_keeper_event(self._isle, event):
                raise InvalidEvent(index)
        own = self._own
        words = []
        for index, event in enumerate(events):
            if event not in keeper_options(self._isle, own):
                raise NotNow(index)
            if event[0] == "deed":
                words.append(next_word(self._isle, own))
            own = behind_event(self._isle, own, event)
        self._own = own
        return tuple(words)


def own_states(isle):
    """The ascending tuple of the own states to which events of the keeper of an isle lead, with the first one."""
    met = [FIRST_OWN]
    ahead = [FIRST_OWN]
    while ahead:
        own = ahead.pop()
        behind = [behind_event(isle, own, event) for event in keeper_options(isle, own)]
        fresh = [each for each in behind if each not in met]
        met.extend(fresh)
        ahead.extend(fresh)
    return tuple(sorted(set(met)))


def _has_own_form(value):
    """Whether any value is a tuple with a count and three flags of their kinds: 0 and False are equal, but not one."""
    if not isinstance(value, tuple) or len(value) != 5:
        return False
    return is_integer(value[1]) and all([isinstance(flag, bool) for flag in value[2:]])
