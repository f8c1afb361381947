"""[9] to [14], duskisles/machines.py: the still chip and the dusk chip."""

import random
import unittest

import oracle
from duskisles.chips import Chip
from duskisles.errors import InvalidEvent, InvalidLogic, NoIsle, NotNow
from duskisles.isles import Isle
from duskisles.logics import Adding, Counting, Logic, Mixing
from duskisles.machines import Dusk, Machine, Still, parted
from duskisles.stations import Clamp, Holding, Pass
from duskisles.weaves import Weave
from duskisles.wires import Wire
from made import made_chip, made_run
from slowplay import SlowPlay, slow_parted
from values import ANY, copied, error_of, is_assigned, raised

KINDS = {"register": 1, "shadow": 2, "held": 3, "wire": 4}


def coded(kind, name, index, moment):
    """Dust that tells its four arguments."""
    return -(moment * 1000000 + ord(name) * 1000 + KINDS[kind] * 10 + index)


def told(kind, name, moment, size=1):
    return tuple(coded(kind, name, index, moment) for index in range(size))


def down(name, count=4):
    return [("deed", name)] * count


def facts(machine):
    places = [*machine.chip.names, "shore"]
    rows = [machine.moment, machine.state, machine.ticking, [machine.registers(name) for name in places],
            [machine.taken(name) for name in places]]
    if isinstance(machine, Dusk):
        rows.append([machine.shadow(name) for name in places])
    return rows


def start_of(dice, chip):
    sizes = {**{name: chip[name].size for name in chip.names}, "shore": chip.shore}
    return {name: tuple(dice.randint(-9, 9) for _ in range(sizes[name])) for name in sizes if dice.random() < 0.6}


class ClassesTest(unittest.TestCase):

    def test_classes(self):
        self.assertRaises(TypeError, Machine)
        self.assertEqual((Still.__bases__, Dusk.__bases__), ((Machine,), (Machine,)))
        for each in (Machine, Still, Dusk):
            for name in ("chip", "moment", "state", "ticking", "registers", "taken", "do"):
                self.assertIn(name, vars(each))
        self.assertFalse(hasattr(Still, "shadow"))

    def test_begin(self):
        chip = Chip(Isle("b", kept=2), Isle("a", kept=0, plain=3), wires=(Wire("x", "shore", "a", Clamp("b", "b", gives=1)),), shore=2)
        for machine in (Still(chip), Dusk(chip)):
            self.assertEqual(facts(machine)[:5], [0, oracle.first(chip), ("a", "b"), [(0, 0, 0), (0, 0, 0), (0, 0)], [{"x": (0, 0)}, {}, {}]])
            for name in ("chip", "moment", "state", "ticking"):
                self.assertFalse(is_assigned(machine, name), name)
            self.assertEqual(machine.chip, chip)
            self.assertEqual(machine.do(), 0)
        self.assertEqual([Dusk(chip).shadow(name) for name in ("a", "b", "shore")], [(), (0, 0), ()])

    def test_start_values_of_some_places(self):
        chip = Chip(Isle("a", kept=2), Isle("b"), shore=2)
        start = {"shore": (7, -8), "a": (1, 2, 3)}
        kept = copied(start)
        machines = [Still(chip, start=start), Dusk(chip, None, start=start)]
        self.assertEqual(start, kept)
        start["a"], start["b"] = (9, 9, 9), (9, 9)
        for machine in machines:
            self.assertEqual([machine.registers(name) for name in ("a", "b", "shore")], [(1, 2, 3), (0, 0), (7, -8)])
            machine.do(("tick", "a"), ("tick", "b"), ("tick", "shore"), ("tick", "shore"))
            self.assertEqual([machine.registers(name) for name in ("a", "b", "shore")], [(2, 3, 4), (1, 1), (9, -6)])
        self.assertEqual(machines[1].shadow("a"), (1, 2))
        self.assertIsNone(parted(chip, [("tick", "a"), *down("a", 9)], start={}))

    def test_names_of_any_values(self):
        chip = Chip(Isle("a"), wires=(Wire("x", "a", "shore"),))
        for machine in (Still(chip), Dusk(chip)):
            for work in [machine.registers, machine.taken] + ([machine.shadow] if isinstance(machine, Dusk) else []):
                for value in ANY:
                    if value not in ("a", "shore"):
                        error = error_of(work, value)
                        self.assertIsInstance(error, NoIsle)
                        self.assertIs(error.which, value)

    def test_returned_dicts_belong_to_the_caller(self):
        machine = Dusk(Chip(Isle("a"), wires=(Wire("x", "a", "shore"),)))
        machine.taken("shore")["x"] = 5
        machine.taken("shore").clear()
        self.assertEqual(machine.taken("shore"), {"x": (0, 0)})


class StepsTest(unittest.TestCase):
    """Chips led by hand."""

    def test_wires_with_each_station(self):
        chip = Chip(Isle("a", kept=0, plain=2), Isle("o"), wires=(
            Wire("v", "a", "shore", Pass("shore"), Pass("a")), Wire("w", "a", "shore", Clamp("shore", "o", gives=1), Pass("shore")),
            Wire("x", "a", "shore", Clamp("shore", "o")), Wire("y", "a", "shore", Holding("shore", "o")),
            Wire("z", "a", "shore", Clamp("shore", "o", gives=1), Holding("shore", "o"))))
        for machine in (Still(chip), Dusk(chip)):
            machine.do(("tick", "a"), ("deed", "o"))
            self.assertEqual(machine.taken("shore"), {name: (1, 1) for name in "vwxyz"})
            machine.do(("deed", "o"), ("tick", "a"))
            self.assertEqual(machine.taken("shore"), {"v": (2, 2), "w": (1, 1), "x": (0, 0), "y": (1, 1), "z": (1, 1)})
            machine.do(*down("o", 6), ("tick", "a"))
            self.assertEqual(machine.taken("shore"), {name: (3, 3) for name in "vwxyz"})

    def test_holding_clamps_in_a_row(self):
        chip = Chip(Isle("a", kept=0), Isle("o", sleep=("shut",), wake=("open",)), Isle("p", sleep=("shut",), wake=("open",)),
                    wires=(Wire("x", "a", "shore", Holding("shore", "o"), Holding("shore", "p"), Holding("shore", "o")),))
        for machine in (Still(chip), Dusk(chip)):
            machine.do(("tick", "a"), ("deed", "o"), ("tick", "a"), ("deed", "p"), ("tick", "a"))
            self.assertEqual(machine.taken("shore"), {"x": (1,)})
            machine.do(("deed", "o"))
            self.assertEqual(machine.taken("shore"), {"x": (1,)})
            machine.do(("deed", "p"))
            self.assertEqual(machine.taken("shore"), {"x": (3,)})
            machine.do(("deed", "p"), ("tick", "a"), ("deed", "o"), ("deed", "p"))
            self.assertEqual(machine.taken("shore"), {"x": (3,)})

    def test_what_is_held_when_it_is_shut_a_second_time(self):
        chip = Chip(Isle("a", kept=0), Isle("o", sleep=("shut", "still"), wake=("go",)), wires=(Wire("x", "a", "shore", Holding("shore", "o")),))
        for machine in (Still(chip), Dusk(chip)):
            machine.do(("tick", "a"), *down("o", 3), ("tick", "a"), ("deed", "o"))
            self.assertEqual(machine.taken("shore"), {"x": (1,)})

    def test_deeds_on_registers(self):
        chip = Chip(Isle("a", kept=1, plain=2, sleep=("save", "dark"), wake=("lit", "back", "reset")))
        still, dusk = Still(chip, start={"a": (5, 6, 7)}), Dusk(chip, start={"a": (5, 6, 7)}, dust=coded)
        for machine in (still, dusk):
            machine.do(("tick", "a"), ("deed", "a"), ("tick", "a"))
            self.assertEqual(machine.registers("a"), (7, 8, 9))
        self.assertEqual(dusk.shadow("a"), (6,))
        steps = [((7, 8, 9), told("register", "a", 4, 3)), ((7, 8, 9), told("register", "a", 4, 3)),
                 ((7, 8, 9), (6,) + told("register", "a", 4, 3)[1:]), ((7, 6, 7), (6, 6, 7))]
        for registers in steps:
            for machine, each in zip((still, dusk), registers):
                machine.do(("deed", "a"))
                self.assertEqual(machine.registers("a"), each)
        self.assertEqual(dusk.shadow("a"), (6,))

    def test_deeds_of_dark_isles(self):
        isle = Isle("a", kept=2, plain=1, sleep=("dark",), wake=("reset", "back", "lit", "go"))
        chip = Chip(isle)
        still, dusk = Still(chip, start={"a": (1, 2, 3)}), Dusk(chip, start={"a": (1, 2, 3)}, dust=coded)
        for machine in (still, dusk):
            machine.do(("tick", "a"), ("deed", "a"), ("tick", "a"), ("deed", "a"), ("deed", "a"))
        self.assertEqual([still.registers("a"), still.ticking], [(3, 4, 3), ("a",)])
        self.assertEqual([dusk.registers("a"), dusk.shadow("a"), dusk.ticking], [told("register", "a", 2, 3), (1, 2), ()])
        for machine in (still, dusk):
            machine.do(("deed", "a"), ("tick", "a"))
        self.assertEqual([still.registers("a"), dusk.registers("a"), dusk.ticking],
                         [(4, 5, 4), tuple(each + 1 for each in told("register", "a", 2, 3)), ("a",)])
        chip = Chip(isle.changed(sleep=("dark", "save"), wake=("lit", "back")))
        dusk = Dusk(chip, start={"a": (1, 2, 3)}, dust=coded)
        dusk.do(("deed", "a"), ("tick", "shore"), ("deed", "a"))
        self.assertEqual([dusk.shadow("a"), dusk.registers("a")], [told("shadow", "a", 3, 2), told("register", "a", 1, 3)])
        dusk.do(("deed", "a"), ("deed", "a"))
        self.assertEqual(dusk.registers("a"), told("shadow", "a", 3, 2) + told("register", "a", 1, 3)[2:])

    def test_registers_and_shadows_under_leashes(self):
        chip = Chip(Isle("a", leash=("b",)), Isle("b", leash=("c",)), Isle("c"), Isle("d"))
        dusk = Dusk(chip, dust=coded)
        dusk.do(("tick", "a"), *down("c"))
        self.assertEqual([dusk.registers(name) for name in "abcd"], [told("register", name, 5, 2) for name in "abc"] + [(0, 0)])
        self.assertEqual([dusk.shadow(name) for name in "abcd"], [told("shadow", "a", 5), told("shadow", "b", 5), (0,), (0,)])
        self.assertEqual(dusk.ticking, ("d",))
        dusk.do(*down("b"))
        # They were dark and dusty already, so nothing becomes dust, but for the shadow that is saved.
        self.assertEqual([dusk.registers("b"), dusk.shadow("a"), dusk.shadow("b")],
                         [told("register", "b", 5, 2), told("shadow", "a", 5), told("shadow", "b", 8)])
        dusk.do(("deed", "c"))
        self.assertEqual(dusk.ticking, ("d",))
        dusk.do(("deed", "b"))
        self.assertEqual(dusk.ticking, ("a", "d"))

    def test_dust_of_stations_is_new_at_each_moment(self):
        chip = Chip(Isle("a", kept=2), Isle("p", sleep=("dark",), wake=("lit",)), Isle("o"), wires=(
            Wire("x", "a", "shore", Pass("p")), Wire("y", "a", "shore", Clamp("p", "o"), Pass("shore")),
            Wire("z", "a", "shore", Clamp("shore", "o", line=("p",)), Clamp("shore", "o", line=("o", "p")))))
        dusk = Dusk(chip, dust=coded)
        for moment in (1, 2):
            dusk.do(("deed", "p") if moment == 1 else ("tick", "shore"))
            self.assertEqual(dusk.taken("shore"), {name: told("wire", name, moment, 3) for name in "xyz"})
        dusk.do(("deed", "p"))
        self.assertEqual(dusk.taken("shore"), {name: (0, 0, 0) for name in "xyz"})

    def test_dust_of_holding_clamps(self):
        one = {"sleep": ("dark",), "wake": ("lit",)}
        chip = Chip(Isle("a", kept=0), Isle("p", **one), Isle("l", **one), Isle("o", sleep=("shut",), wake=("open",)), wires=(
            Wire("x", "a", "shore", Holding("p", "o")), Wire("y", "a", "shore", Holding("shore", "o", line=("l",))),
            Wire("z", "a", "shore", Pass("p"), Holding("shore", "o"))))
        dusk = Dusk(chip, dust=coded)
        dusk.do(("tick", "a"), ("deed", "o"), ("tick", "a"))
        self.assertEqual(dusk.taken("shore"), {name: (1,) for name in "xyz"})
        dusk.do(("deed", "p"), ("deed", "l"), ("tick", "shore"))
        self.assertEqual(dusk.taken("shore"), {"x": told("wire", "x", 6), "y": told("wire", "y", 6), "z": (1,)})
        dusk.do(("deed", "p"))
        self.assertEqual(dusk.taken("shore"), {"x": told("held", "x", 6), "y": told("wire", "y", 7), "z": (1,)})
        dusk.do(("deed", "l"))
        self.assertEqual(dusk.taken("shore"), {"x": told("held", "x", 6), "y": told("held", "y", 7), "z": (1,)})
        dusk.do(("deed", "o"))
        self.assertEqual(dusk.taken("shore"), {name: (2,) for name in "xyz"})
        # Becoming shut while the place is dark, and while dust of the walk comes.
        dusk.do(("deed", "p"), ("deed", "o"), ("deed", "p"))
        self.assertEqual(dusk.taken("shore"), {"x": told("held", "x", 11), "y": (2,), "z": told("wire", "z", 11)})

    def test_ticks_take_what_there_was_ahead_of_them(self):
        chip = Chip(Isle("a", kept=0), Isle("p", sleep=("dark",), wake=("lit",)), wires=(Wire("x", "a", "shore", Pass("p")), Wire("y", "shore", "a")))
        for machine in (Still(chip, Adding()), Dusk(chip, Adding(), dust=coded)):
            machine.do(("tick", "a"), ("tick", "shore"), ("tick", "a"))
            self.assertEqual([machine.registers("a"), machine.registers("shore")], [(4,), (2,)])
        machine.do(("deed", "p"), ("tick", "shore"))
        self.assertEqual(machine.registers("shore"), (3 + told("wire", "x", 4)[0],))

    def test_dust_of_the_default(self):
        chip = Chip(Isle("a", leash=("b",)), Isle("b"), wires=(Wire("x", "a", "shore", Pass("b")),))
        dusk = Dusk(chip)
        dusk.do(*down("b"))
        self.assertEqual([dusk.registers("a"), dusk.shadow("a"), dusk.taken("shore")], [(-1, -1), (-1,), {"x": (-1, -1)}])

    def test_dust_is_asked_with_right_arguments_only(self):
        for seed in range(40):
            dice = random.Random(seed)
            chip = made_chip(dice, 3, 3)
            run = made_run(dice, chip, 20)
            asked = []
            def dust(kind, name, index, moment):
                asked.append((kind, name, index, moment))
                return 0
            dusk = Dusk(chip, dust=dust)
            slow = SlowPlay(chip, Counting(), {}, coded)
            for event in run:
                del asked[:]
                dusk.do(event)
                dusk.taken("shore")
                slow.do(event)
                isles, _ = oracle.opened(chip, slow.state)
                for kind, name, index, moment in asked:
                    self.assertIn(moment, (slow.moment,) if kind != "wire" else (slow.moment - 1, slow.moment))
                    if kind == "register":
                        self.assertTrue(name in slow.dark(slow.state) and 0 <= index < chip[name].size)
                    if kind == "shadow":
                        self.assertTrue(name in slow.dark(slow.state) and 0 <= index < chip[name].kept)
                    if kind in ("held", "wire"):
                        self.assertLess(index, slow.sizes[chip.wire(name).driver])
                        stations = [each for each in chip.wire(name).stations if slow.spoilt(each)]
                        if kind == "held":
                            stations = [each for each in stations if isinstance(each, Holding) and slow.is_shut(slow.state, each.owner)]
                        self.assertTrue(stations)


class LogicTest(unittest.TestCase):

    def test_calls(self):
        chip = Chip(Isle("a", kept=2, plain=0), Isle("b"), wires=(Wire("x", "a", "b"), Wire("y", "shore", "b"), Wire("z", "b", "shore")), shore=3)
        calls = []
        def logic(*values):
            calls.append(copied(values))
            values[2]["more"] = values[2].pop("x", ())
            return tuple(each + 5 for each in values[1])
        for machine in (Still(chip, logic), Dusk(chip, logic=logic)):
            del calls[:]
            machine.do(("tick", "a"), ("tick", "b"), ("tick", "shore"), ("tick", "b"))
            self.assertEqual(calls, [("a", (0, 0), {}), ("b", (0, 0), {"x": (5, 5), "y": (0, 0, 0)}), ("shore", (0, 0, 0), {"z": (5, 5)}),
                                     ("b", (5, 5), {"x": (5, 5), "y": (5, 5, 5)})])
            self.assertEqual(machine.taken("b"), {"x": (5, 5), "y": (5, 5, 5)})

    def test_a_logic_that_returns_something_else(self):
        chip = Chip(Isle("a"), Isle("b", kept=0))
        for value in [value for value in ANY if value != (1, 2)] + [(1, True), (False, 0), (1, "2"), [1, 2], (1,), (1, 2, 3), (1, (2,)), (1, None)]:
            for machine in (Still(chip, lambda *_: value), Dusk(chip, lambda *_: value)):
                before = facts(machine)
                error = error_of(machine.do, ("deed", "b"), ("tick", "a"), ("deed", "b"))
                self.assertIsInstance(error, InvalidLogic)
                self.assertEqual(error.which, "a")
                self.assertEqual(facts(machine), before)
            self.assertEqual(raised(parted, chip, [("tick", "a")], logic=lambda *_: value), "InvalidLogic('a')")
        wrong = lambda name, registers, taken: registers if name == "a" else None
        self.assertEqual(raised(Still(chip, wrong).do, ("tick", "a"), ("tick", "shore")), "InvalidLogic('shore')")

    def test_dark_isles_do_not_call_the_logic(self):
        chip = Chip(Isle("a", sleep=("dark",), wake=("lit",)))
        self.assertEqual(Dusk(chip, lambda *_: None).do(("deed", "a"), ("tick", "a")), 2)
        self.assertEqual(raised(Still(chip, lambda *_: None).do, ("deed", "a"), ("tick", "a")), "InvalidLogic('a')")

    def test_errors_in_their_order(self):
        chip = Chip(Isle("a"), Isle("b", needs=("a",)))
        wrong = lambda *_: ()
        for machine in (Still(chip, wrong), Dusk(chip, wrong)):
            before = facts(machine)
            self.assertEqual(raised(machine.do, ("tick", "a"), ("deed", "a"), ("turn", "a", 0)), "InvalidEvent(2)")
            self.assertEqual(raised(machine.do, ("deed", "b"), ("deed", "a"), ("tick", "a")), "NotNow(1)")
            self.assertEqual(raised(machine.do, ("deed", "b"), ("tick", "a"), ("deed", "a")), "InvalidLogic('a')")
            self.assertEqual(raised(machine.do, ("deed", "b"), ("tick", "b")), "NotNow(1)")
            for value in ANY + [("tick", "c"), ("turn", "a", True)]:
                if value != ("deed", "a"):
                    self.assertEqual(raised(machine.do, ("deed", "a"), value), "InvalidEvent(1)")
            self.assertEqual(facts(machine), before)
            self.assertIsInstance(error_of(machine.do, None), InvalidEvent)
            self.assertIsInstance(error_of(machine.do, ("deed", "a")), NotNow)

    def test_what_logic_and_dust_raise_passes_through(self):
        chip = Chip(Isle("a"))
        def failing(*_):
            raise KeyError("mine")
        for machine in (Still(chip, failing), Dusk(chip, failing), Dusk(chip, dust=failing)):
            before = facts(machine)
            self.assertEqual(raised(machine.do, ("deed", "a"), ("tick", "shore"), *down("a", 3)), "KeyError('mine')")
            self.assertEqual(facts(machine), before)
        self.assertEqual(raised(parted, chip, down("a"), dust=failing), "KeyError('mine')")
        self.assertEqual(raised(parted, chip, [("tick", "a")], logic=failing), "KeyError('mine')")


class RunsTest(unittest.TestCase):

    def test_against_a_second_telling_of_the_document(self):
        for seed in range(120):
            dice = random.Random(seed)
            chip = made_chip(dice, 4, 4, turns=2)
            start = start_of(dice, chip)
            run = made_run(dice, chip, 25, ticks=0.4)
            logic = dice.choice([Counting(), Adding(), Logic(), Mixing(3, 2, 1, modulus=11)])
            pairs = [(Still(chip, logic, start=start), SlowPlay(chip, logic, start, None)),
                     (Dusk(chip, logic, start=start, dust=coded), SlowPlay(chip, logic, start, coded))]
            for moment, event in enumerate(run):
                for machine, slow in pairs:
                    self.assertEqual(machine.do(event), moment + 1)
                    slow.do(event)
                    places = [*chip.names, "shore"]
                    self.assertEqual(facts(machine)[:5], [moment + 1, slow.state, slow.ticking(), [slow.registers[name] for name in places],
                                                          [slow.taken(name) for name in places]])
                self.assertEqual([machine.shadow(name) for name in chip.names], [slow.shadow[name] for name in chip.names])
            whole = Dusk(chip, logic, start=start, dust=coded)
            self.assertEqual(whole.do(*run), 25)
            self.assertEqual(facts(whole), facts(machine))

    def test_parted_against_a_second_telling(self):
        answers = set()
        for seed in range(150):
            dice = random.Random(1000 + seed)
            chip = made_chip(dice, 3, 3, turns=2)
            start = start_of(dice, chip)
            run = made_run(dice, chip, 25, ticks=0.4)
            logic = dice.choice([Counting(), Adding(), Mixing(3, 2, 1, modulus=11), Mixing(0, 1, 1, modulus=2)])
            dust = dice.choice([coded, lambda kind, name, index, moment: moment % 2, lambda kind, name, index, moment: 0])
            answer = parted(chip, run, logic=logic, start=start, dust=dust)
            self.assertEqual(answer, slow_parted(chip, run, logic, start, dust))
            self.assertEqual(parted(chip, tuple(run), logic=logic, start=start, dust=dust), answer)
            answers.add(answer and answer[1])
        self.assertEqual(answers, {None, "ticking", "registers", "wire"})

    def test_the_chips_part_at_the_first_bad_moment(self):
        parts = 0
        for seed in range(400):
            dice = random.Random(2000 + seed)
            chip = made_chip(dice, 4, 4, turns=2, whole=0.85)
            run = made_run(dice, chip, 30)
            first = Weave.of(chip, run).first
            answer = parted(chip, run)
            self.assertEqual(answer and answer[0], first, seed)
            parts += answer is not None
            logic = dice.choice([Adding(), Mixing(dice.randint(-3, 3), dice.randint(-3, 3), 1, modulus=dice.choice([2, 5, 97]))])
            other = parted(chip, run, logic=logic, start=start_of(dice, chip), dust=coded)
            if other is not None:
                self.assertTrue(first is not None and other[0] >= first, seed)
        self.assertTrue(50 < parts < 350)


class PartedTest(unittest.TestCase):

    def test_ticking(self):
        chip = Chip(Isle("b", leash=("a",)), Isle("a"), Isle("c", leash=("a",)))
        self.assertEqual(parted(chip, down("a")), (4, "ticking", "b"))
        self.assertIsNone(parted(chip, down("a", 3)))
        self.assertIsNone(parted(chip, []))
        self.assertIsNone(parted(chip, ()))

    def test_registers(self):
        kept = Isle("a", sleep=("save", "still"), wake=("back", "go"))
        chip = Chip(kept, kept.changed(name="b"))
        run = [("deed", "b"), ("tick", "b"), ("deed", "b"), ("deed", "b"), ("deed", "b")]
        self.assertEqual(parted(chip, run), (5, "registers", "b"))
        self.assertIsNone(parted(chip, run[:4]))
        self.assertIsNone(parted(chip, run, logic=Logic()))
        # The shore is the last one whose registers are looked at.
        chip = Chip(Isle("a", sleep=("still", "dark"), wake=("lit", "go")), Isle("z", sleep=("still", "dark"), wake=("lit", "reset", "go")),
                    wires=(Wire("x", "a", "shore", Clamp("shore", "z")),))
        def logic(name, registers, taken):
            return (sum(sum(value) for value in taken.values()),) if name == "shore" else registers
        self.assertEqual(parted(chip, [*down("a", 2), ("tick", "shore")]), (2, "wire", "x"))
        dust = lambda kind, name, index, moment: 0
        self.assertEqual(parted(chip, [*down("a", 2), ("tick", "shore")], logic=logic, dust=dust), None)

    def test_registers_of_the_shore(self):
        # Dust is 0 as long as it is looked at, but not when the shore takes it.
        chip = Chip(Isle("a", sleep=("still", "dark"), wake=("lit", "go")), wires=(Wire("x", "a", "shore", Pass("a")),))
        dust = lambda kind, name, index, moment: 0
        def logic(name, registers, taken):
            seen.append(taken)
            return (len(seen),) if name == "shore" else registers
        seen = []
        self.assertEqual(parted(chip, [*down("a", 2), ("tick", "shore")], logic=logic, dust=dust), (3, "registers", "shore"))
        self.assertEqual(seen, [{"x": (0, 0)}] * 2)

    def test_events_behind_the_moment_at_which_they_part(self):
        chip = Chip(Isle("b", leash=("a",)), Isle("a"))
        self.assertEqual(parted(chip, [*down("a"), ("tick", "a")]), (4, "ticking", "b"))
        self.assertEqual(raised(parted, chip, [*down("a", 3), ("tick", "a"), ("deed", "a")]), "NotNow(3)")
        self.assertEqual(raised(parted, chip, [*down("a"), ("tick", "a"), ("tick", "c")]), "InvalidEvent(5)")
        self.assertEqual(raised(parted, chip, [*down("a", 3), ("tick", "a"), None]), "InvalidEvent(4)")
        wrong = lambda name, registers, taken: None if name == "shore" else registers
        self.assertEqual(parted(chip, [*down("a"), ("tick", "shore")], logic=wrong), (4, "ticking", "b"))
        self.assertEqual(raised(parted, chip, [*down("a", 3), ("tick", "shore")], logic=wrong), "InvalidLogic('shore')")

    def test_arguments_are_not_modified(self):
        chip = Chip(Isle("a"), Isle("b"))
        events, start = [("tick", "a"), ("deed", "b")], {"a": (1, 2)}
        kept = copied((events, start))
        parted(chip, events, start=start, logic=Adding())
        self.assertEqual((events, start), kept)


if __name__ == "__main__":
    unittest.main()
