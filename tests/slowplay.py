"""Point [13] told a second time: both chips with a logic, by names, plainly and slowly, to compare the machines with."""

import oracle
from duskisles.stations import Clamp, Holding


class SlowPlay:

    def __init__(self, chip, logic, start, dust):
        """`dust` is None in the still chip."""
        self.chip, self.logic, self.dust, self.moment = chip, logic, dust, 0
        self.state = oracle.first(chip)
        self.sizes = {**{name: chip[name].size for name in chip.names}, "shore": chip.shore}
        self.start = {name: start.get(name, (0,) * self.sizes[name]) for name in self.sizes}
        self.registers = dict(self.start)
        self.shadow = {name: self.start[name][:chip[name].kept] for name in chip.names}
        self.held = {}

    def dark(self, state):
        if self.dust is None:
            return []
        isles, _ = oracle.opened(self.chip, state)
        return [name for name in self.chip.names if oracle.is_dark(self.chip, isles, name)]

    def dusty(self, state, lead):
        return any(name in self.dark(state) for name in lead)

    def dusts(self, kind, name, size):
        return tuple(self.dust(kind, name, index, self.moment) for index in range(size))

    def is_shut(self, state, name):
        return oracle.opened(self.chip, state)[0][name]["shut"]

    def spoilt(self, station):
        return station.on in self.dark(self.state) or self.dusty(self.state, station.line)

    def brings(self, name, until=None):
        wire = self.chip.wire(name)
        size = self.sizes[wire.driver]
        value = self.registers[wire.driver]
        for index, station in enumerate(wire.stations[:until]):
            if self.spoilt(station):
                value = self.dusts("wire", name, size)
            elif isinstance(station, Clamp) and self.is_shut(self.state, station.owner):
                value = self.held[name, index] if isinstance(station, Holding) else (station.gives,) * size
        return value

    def taken(self, name):
        return {wire: self.brings(wire) for wire in self.chip.wires if self.chip.wire(wire).reader == name}

    def ticking(self):
        isles, _ = oracle.opened(self.chip, self.state)
        return tuple(name for name in self.chip.names if isles[name]["clock"] and name not in self.dark(self.state))

    def do(self, event):
        name, old = event[1], self.state
        ahead = self.taken(name)
        word = None
        if event[0] == "deed":
            isles, _ = oracle.opened(self.chip, old)
            word = oracle.move_post(self.chip[name], isles[name], event)
        self.state = oracle.step(self.chip, old, event)
        self.moment += 1
        lit = name not in self.dark(self.state)
        if event[0] == "tick" and lit:
            self.registers[name] = self.logic(name, self.registers[name], ahead)
        if word == "reset" and lit:
            self.registers[name] = self.registers[name][:self.chip[name].kept] + self.start[name][self.chip[name].kept:]
        if self.dust is not None:
            self.do_dusk(word, name, old, lit)
        for wire, index in oracle.holders(self.chip):
            station = self.chip.wire(wire).stations[index]
            if self.is_shut(self.state, station.owner):
                if self.spoilt(station):
                    self.held[wire, index] = self.dusts("held", wire, self.sizes[self.chip.wire(wire).driver])
                elif not self.is_shut(old, station.owner):
                    self.held[wire, index] = self.brings(wire, index)

    def do_dusk(self, word, name, old, lit):
        if word == "save":
            kept = self.chip[name].kept
            self.shadow[name] = self.registers[name][:kept] if lit else self.dusts("shadow", name, kept)
        if word == "back" and lit:
            self.registers[name] = self.shadow[name] + self.registers[name][self.chip[name].kept:]
        for each in self.chip.names:
            isle = self.chip[each]
            if each in self.dark(self.state) and each not in self.dark(old):
                self.registers[each] = self.dusts("register", each, isle.size)
            if self.dusty(self.state, isle.leash) and not self.dusty(old, isle.leash):
                self.shadow[each] = self.dusts("shadow", each, isle.kept)


def slow_parted(chip, events, logic, start, dust):
    still, dusk = SlowPlay(chip, logic, start, None), SlowPlay(chip, logic, start, dust)
    for index, event in enumerate(events):
        still.do(event)
        dusk.do(event)
        one, other = still.ticking(), dusk.ticking()
        found = [("ticking", name) for name in chip.names if (name in one) != (name in other)]
        places = [*[name for name in chip.names if name in one], "shore"]
        found += [("registers", name) for name in places if still.registers[name] != dusk.registers[name]]
        found += [("wire", wire) for wire in chip.wires if chip.wire(wire).reader in places and still.brings(wire) != dusk.brings(wire)]
        if found:
            return (index + 1, *found[0])
    return None
