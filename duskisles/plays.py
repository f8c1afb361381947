"""Plays: what the still or the dusk chip holds at one moment of a run."""

from duskisles.errors import InvalidLogic, NotNow
from duskisles.moves import away_mask, can_come, first_state, shut_mask, state_behind, word_of
from duskisles.names import is_integer


class Setting:
    """What stays the same through a run. `dust` is None in the still chip."""

    def __init__(self, chip, logic, start, dust):
        self.of_chip = chip
        self.logic = logic
        self.dust = dust
        kept_sizes = {name: chip[name].kept for name in chip.names}
        self.kept_sizes = {**kept_sizes, "shore": 0}
        isle_sizes = {name: chip[name].size for name in chip.names}
        sizes = {**isle_sizes, "shore": chip.shore}
        given = {} if start is None else start
        self.begins = {name: given.get(name, (0,) * sizes[name]) for name in sizes}


class Play:
    """One moment of a run: how many events were done, the state, the registers and shadows of the places, and what
    the holding clamps hold. Only `behind` changes one, which it makes itself."""

    def __init__(self, setting, count, now, cells, shadows, holds):
        self.setting = setting
        self.count = count
        self.now = now
        self.cells = {name: cells[name] for name in cells}
        self.shadows = {name: shadows[name] for name in shadows}
        self.holds = {at: holds[at] for at in holds}
        self.shut_bits = shut_mask(now[0])
        # In the still chip nothing is ever dark.
        self.dark_bits = 0 if setting.dust is None else setting.of_chip.plan().dark_mask(away_mask(now[0]))

    def ticking_names(self):
        """The ascending tuple of the isles that are ticking."""
        names = self.setting.of_chip.names
        return tuple([name for index, name in enumerate(names)
                      if self.now[0][index][2] and not self.dark_bits >> index & 1])

    def brought(self, track, stations):
        """What a wire brings behind so many of its stations."""
        size = len(self.setting.begins[track.from_place])
        value = self.cells[track.from_place]
        for index, (station, place, owner, line, holds) in enumerate(track.stops[:stations]):
            if self.dark_bits & (place | line):
                value = self._dusted("wire", track.wire_name, size)
            elif self.shut_bits & owner:
                value = self.holds[(track.wire_name, index)] if holds else (station.gives,) * size
        return value

    def taken_by(self, name):
        """A dict with what the wires that lead to a place bring."""
        tracks = self.setting.of_chip.plan().tracks
        return {track.wire_name: self.brought(track, len(track.stops)) for track in tracks if track.to_place == name}

    def behind(self, index, event):
        """The play behind an event of the chip. Raises NotNow(index) if it cannot come."""
        plan = self.setting.of_chip.plan()
        if not can_come(plan, self.now[0], event):
            raise NotNow(index)
        word = word_of(plan, self.now[0], event)
        state = state_behind(plan, self.now, event)
        play = Play(self.setting, self.count + 1, state, self.cells, self.shadows, self.holds)
        if word == "tick":
            play._tick(event[1], self)
        elif self.setting.dust is None:
            play._work_still(event[1], word)
        else:
            play._work_dusk(event[1], word)
            play._spoil(self.dark_bits)
        play._hold(self.shut_bits)
        return play

    def _is_dark(self, name):
        """Whether a place is dark."""
        return self.dark_bits & self.setting.of_chip.plan().bits[name] > 0

    def _dusted(self, kind, name, size):
        """So many integers of dust of this moment."""
        dust = self.setting.dust
        return tuple([dust(kind, name, index, self.count) for index in range(size)])

    def _tick(self, name, ahead):
        """Sets the registers of a place that is not dark by what there was ahead of the tick."""
        if self._is_dark(name):
            return
        logic = self.setting.logic
        registers = logic(name, ahead.cells[name], ahead.taken_by(name))
        if not isinstance(registers, tuple) or len(registers) != len(ahead.cells[name]):
            raise InvalidLogic(name)
        if not all([is_integer(each) for each in registers]):
            raise InvalidLogic(name)
        self.cells[name] = registers

    def _work_still(self, name, word):
        """What a deed does to the registers in the still chip."""
        if word == "reset":
            self._reset(name)

    def _work_dusk(self, name, word):
        """What a deed does to the registers and the shadow in the dusk chip."""
        kept = self.setting.kept_sizes[name]
        if self._is_dark(name):
            if word == "save":
                self.shadows[name] = self._dusted("shadow", name, kept)
        elif word == "save":
            self.shadows[name] = self.cells[name][:kept]
        elif word == "back":
            self.cells[name] = (*self.shadows[name], *self.cells[name][kept:])
        elif word == "reset":
            self._reset(name)

    def _reset(self, name):
        """Sets the plain registers to their start values."""
        kept = self.setting.kept_sizes[name]
        self.cells[name] = (*self.cells[name][:kept], *self.setting.begins[name][kept:])

    def _spoil(self, dark_ahead):
        """Makes dust of the registers of isles that became dark, and of shadows whose leash became dusty."""
        plan = self.setting.of_chip.plan()
        for index, isle in enumerate(plan.isle_row):
            if self.dark_bits >> index & 1 and not dark_ahead >> index & 1:
                self.cells[isle.name] = self._dusted("register", isle.name, isle.size)
            if self.dark_bits & plan.leash_masks[index] and not dark_ahead & plan.leash_masks[index]:
                self.shadows[isle.name] = self._dusted("shadow", isle.name, isle.kept)

    def _hold(self, shut_ahead):
        """Sets what the holding clamps hold whose owners became shut, or that are dusty while these are shut."""
        for track in self.setting.of_chip.plan().tracks:
            size = len(self.setting.begins[track.from_place])
            for index, (_, place, owner, line, holds) in enumerate(track.stops):
                if not holds or not self.shut_bits & owner:
                    continue
                if self.dark_bits & (place | line):
                    self.holds[(track.wire_name, index)] = self._dusted("held", track.wire_name, size)
                elif not shut_ahead & owner:
                    self.holds[(track.wire_name, index)] = self.brought(track, index)


def first_play(chip, logic, start, dust):
    """The play without events."""
    setting = Setting(chip, logic, start, dust)
    shadows = {name: setting.begins[name][:kept] for name, kept in setting.kept_sizes.items()}
    return Play(setting, 0, first_state(chip.plan()), setting.begins, shadows, {})
