"""[4], [19], duskisles/orders.py: in which orders the words of an isle may stand."""

import itertools
import random
import unittest

import oraclepapers
from bent import bent
from duskisles.chips import Chip
from duskisles.errors import HasTurns, HoldsOwn, InvalidIsle, NoIsle, NoPair
from duskisles.isles import Isle
from duskisles.orders import Orders, lets_orders, ordered
from duskisles.runcheck import lets_run
from duskisles.stations import Clamp, Holding, Pass
from duskisles.verdict import is_safe, verdict
from duskisles.wires import Wire
from made import made_chip
from values import ANY, copied, error_of, is_assigned

PAIR = Chip(Isle("a"), Isle("b"), wires=(Wire("x", "a", "b", Clamp("b", "a")),))
ORDER = (Isle.SLEEP, Isle.WAKE)
LOST = PAIR.with_isles(Isle("c", sleep=("dark",), wake=("lit",)))


def some_chip(sleep, wake, *stations, kept=1, plain=1, out=True, **parts):
    """A chip of a with a wire to the shore or from it, and of b, which stations may stand on."""
    ends = ("a", "shore") if out else ("shore", "a")
    return Chip(Isle("a", kept=kept, plain=plain, sleep=sleep, wake=wake, **parts), Isle("b", kept=0, sleep=("still",), wake=("go",)),
                wires=(Wire("x", *ends, *stations),))


# Chips in which all orders of the rows of a are tried, with the number of those that are safe.
CHIPS = [
    (some_chip(("dark", "save", "still"), ("back", "go", "lit"), plain=0, out=False), 1),
    (some_chip(("dark", "save", "still"), ("back", "lit", "reset", "go"), out=False), 2),
    (some_chip(("dark", "save", "shut", "still"), ("back", "lit", "open", "go"), Clamp("shore", "a"), plain=0), 6),
    (some_chip(("dark", "shut", "still"), ("go", "lit", "open", "reset"), Clamp("shore", "a"), kept=0), 4),
    (some_chip(("dark", "shut", "still"), ("go", "lit", "open", "reset"), Holding("shore", "a"), kept=0), 4),
    (some_chip(("dark", "shut", "still"), ("go", "lit", "open", "reset"), Pass("b"), kept=0, out=False), 12),
    (some_chip(("save", "still"), ("back", "go"), plain=0, out=False), 1),
    (some_chip(("save", "still"), ("back", "go"), Pass("b"), kept=0), 4),
    (some_chip(("dark", "still"), ("go", "lit"), kept=0), 0),
    (some_chip(("dark", "shut", "still"), ("go", "lit", "open"), Clamp("shore", "a"), kept=0, sleeps=False), 36),
    (some_chip(("dark", "shut", "still"), ("go", "lit", "reset"), Clamp("shore", "a"), kept=0, needs=("b",)), 2),
    (Chip(Isle("a", kept=0, sleep=("dark", "shut", "still"), wake=("lit", "open", "reset", "go")), Isle("b", kept=0, sleep=("still",), wake=("go",)),
          wires=(Wire("x", "shore", "b", Clamp("shore", "a")), Wire("y", "b", "a", Pass("a")))), 12),
    (Chip(Isle("a", kept=0, sleep=("dark", "still"), wake=("go", "lit", "reset")), Isle("b", kept=0, leash=("a",), sleeps=False)), 0),
]


class OrdersTest(unittest.TestCase):

    def search(self, chip, name):
        """Compares the orders of an isle with a search through all states with each of them."""
        orders = Orders(chip, name)
        isle = chip[name]
        safe = [order for order in oraclepapers.orders(isle) if oraclepapers.is_safe(oraclepapers.with_order(chip, name, order))]
        self.assertEqual(list(orders.every_safe()), safe)
        self.assertEqual((len(orders), bool(orders)), (len(safe), len(safe) > 0))
        for order in oraclepapers.orders(isle):
            self.assertIs(order in orders, order in safe)
        self.assertEqual(orders.candidates, tuple(oraclepapers.candidates(isle)))
        needed = [pair for pair in orders.candidates if all(oraclepapers.keeps(order, pair) for order in safe)] if safe else []
        plain = [pair for pair in needed if pair not in oraclepapers.implied(isle, [other for other in needed if other != pair])]
        self.assertEqual(orders.pairs, tuple(plain))
        self.assertIs(orders.reason() is None, len(safe) > 0)
        thing = orders.paper()
        self.assertIs(lets_orders(chip, name, thing), True)
        self.assertTrue(oraclepapers.is_orders_paper(chip, name, thing))
        return len(safe), len(oraclepapers.orders(isle))

    def test_all_orders_against_a_search_through_all_states(self):
        self.assertEqual([self.search(chip, "a")[0] for chip, _ in CHIPS], [safe for _, safe in CHIPS])
        for chip, _ in CHIPS[:3]:
            self.search(chip, "b")

    def test_chips_by_chance(self):
        answers = {"none": 0, "some": 0, "all": 0}
        for seed in range(350):
            dice = random.Random(seed)
            chip = made_chip(dice, 2, 2, turns=0, whole=0, needs=1)
            name = dice.choice(chip.names)
            isle = chip[name]
            owns = any(isinstance(station, Holding) and station.owner == name for wire in chip.wires if chip.wire(wire).reader == name
                       for station in chip.wire(wire).stations)
            if owns or len(isle.sleep) > 3 or len(isle.wake) > 3 or sum(len(chip[other].sleep + chip[other].wake) for other in chip.names) > 10:
                continue
            safe, count = self.search(chip, name)
            answers["none" if not safe else "all" if safe == count else "some"] += 1
        self.assertTrue(min(answers.values()) > 5, answers)

    def test_the_example(self):
        orders = Orders(PAIR, "a")
        self.assertEqual(orders.pairs, (("back", "go"), ("back", "open"), ("lit", "back"), ("lit", "reset"), ("reset", "go"), ("reset", "open"),
                                        ("save", "dark"), ("shut", "dark"), ("still", "save")))
        sleeps = [("shut", "still", "save", "dark"), ("still", "save", "shut", "dark"), ("still", "shut", "save", "dark")]
        wakes = [("lit", *first, *last) for first in itertools.permutations(("back", "reset")) for last in itertools.permutations(("go", "open"))]
        self.assertEqual(list(orders.every_safe()), sorted(itertools.product(sleeps, wakes)))
        self.assertEqual(len(Orders(PAIR, "b")), 40)
        self.assertNotIn("shut", [word for pair in Orders(PAIR, "b").pairs for word in pair])

    def test_candidates(self):
        for sleep, wake, told in ((("dark",), ("lit",), ()), (("dark", "still"), ("go",), (("still", "dark"),)),
                                  (("shut", "still"), ("open", "lit"), (("lit", "open"),)), (("shut", "save"), ("reset", "back"), ()),
                                  (("save", "dark", "shut"), ("open", "go", "reset"), (("reset", "go"), ("reset", "open"), ("save", "dark"), ("shut", "dark")))):
            self.assertEqual(Orders(PAIR.with_isles(Isle("b", sleep=sleep, wake=wake)), "b").candidates, told)
        self.assertEqual(Orders(PAIR, "a").candidates, (
            ("back", "go"), ("back", "open"), ("lit", "back"), ("lit", "go"), ("lit", "open"), ("lit", "reset"), ("reset", "go"),
            ("reset", "open"), ("save", "dark"), ("shut", "dark"), ("still", "dark"), ("still", "save")))

    def test_what_is_no_order(self):
        orders = Orders(PAIR, "a")
        good = next(orders.every_safe())
        self.assertIs(good in orders, True)
        for value in ANY + [good[0], list(good), (list(good[0]), good[1]), (good[0], list(good[1])), good[::-1], (*good, ()), (good[0][:3], good[1]),
                            (good[0], good[1][:4]), (good[0], good[1] + good[1][:1]), (good[0], None), ((), ())]:
            self.assertIs(value in orders, False)

    def test_no_order_is_safe(self):
        orders = Orders(LOST, "a")
        self.assertEqual((orders.pairs, len(orders), bool(orders), list(orders.every_safe()), ORDER in orders), ((), 0, False, [], False))
        order, question, events = orders.reason()
        self.assertEqual((order, question), ((("shut", "still", "save", "dark"), ("lit", "back", "reset", "go", "open")), ("isle", "c")))
        self.assertIs(lets_run(ordered(LOST, "a", order), question, events), True)
        self.assertEqual(orders.paper(), ("none", order, question, events))

    def test_sleepless_isles(self):
        still = PAIR.with_isles(Isle("a", sleeps=False))
        self.assertEqual((Orders(still, "a").pairs, len(Orders(still, "a"))), ((), 2880))
        self.assertEqual(len(Orders(LOST.with_isles(Isle("a", sleeps=False)), "a")), 0)

    def test_runs(self):
        for chip in [PAIR, *[chip for chip, _ in CHIPS[:6]]]:
            orders = Orders(chip, "a")
            for pair in orders.pairs:
                order, question, events = orders.run(pair)
                self.assertEqual([other for other in orders.pairs if not oraclepapers.keeps(order, other)], [pair])
                self.assertIs(lets_run(ordered(chip, "a", order), question, events), True)
                self.assertEqual(Orders(chip, "a").run(pair), (order, question, events))
                orders.run(pair)[2].clear()
                self.assertEqual(orders.run(pair)[2], events)

    def test_what_is_no_pair(self):
        orders = Orders(PAIR, "a")
        for value in ANY + [("lit", "go"), ("lit", "open"), ("still", "dark"), ("dark", "still"), ["back", "go"], ("back", "go", "go")]:
            error = error_of(orders.run, value)
            self.assertIsInstance(error, NoPair)
            self.assertIs(error.value, value)
        self.assertIsInstance(error_of(Orders(LOST, "a").run, ("back", "go")), NoPair)

    def test_papers(self):
        word, order, tables, needed, free = Orders(PAIR, "a").paper()
        self.assertEqual((word, order), ("orders", (("shut", "still", "save", "dark"), ("lit", "back", "reset", "go", "open"))))
        self.assertEqual(("safe", tables), verdict(ordered(PAIR, "a", order)))
        self.assertEqual(([row[0] for row in needed], free), (list(Orders(PAIR, "a").pairs), ()))
        self.assertEqual([row[1:] for row in needed], [Orders(PAIR, "a").run(row[0]) for row in needed])
        free = Orders(PAIR, "b").paper()[4]
        self.assertEqual([row[0] for row in free], [("back", "open"), ("lit", "open"), ("reset", "open"), ("shut", "dark")])
        for pair, order, tables in free:
            self.assertTrue(order in Orders(PAIR, "b") and not oraclepapers.keeps(order, pair))
            self.assertEqual(("safe", tables), verdict(ordered(PAIR, "b", order)))

    def test_properties(self):
        orders = Orders(PAIR, "a")
        self.assertFalse(is_assigned(orders, "pairs", ()) or is_assigned(orders, "candidates", ()))

    def test_generators_by_turns(self):
        orders = Orders(PAIR, "a")
        both = list(zip(orders.every_safe(), orders.every_safe()))
        self.assertEqual(both, [(order, order) for order in orders.every_safe()])

    def test_chips_stay(self):
        before = str(PAIR)
        Orders(PAIR, "a").paper()
        self.assertEqual(str(PAIR), before)


class ErrorsTest(unittest.TestCase):

    def test_no_isles_first(self):
        for value in ANY + ["z", "x"]:
            if value not in ("a", "b"):
                for work, more in ((ordered, (None,)), (Orders, ()), (lets_orders, (None,))):
                    error = error_of(work, PAIR, value, *more)
                    self.assertIsInstance(error, NoIsle)
                    self.assertIs(error.which, value)

    def test_turns_then_holding_clamps_of_its_own(self):
        hold = (Wire("x", "b", "a", Pass("a"), Holding("shore", "a")),)
        turning = Isle("a", turns=(("sleep", 1, 1),))
        for chip, kind in ((Chip(turning, Isle("b"), wires=hold), HasTurns), (Chip(turning), HasTurns), (Chip(Isle("a"), Isle("b"), wires=hold), HoldsOwn)):
            for work, more in ((ordered, (None,)), (ordered, (ORDER,)), (Orders, ()), (lets_orders, (None,))):
                error = error_of(work, chip, "a", *more)
                self.assertEqual((type(error), error.which), (kind, "a"))
        for wire in (Wire("x", "b", "a", Clamp("a", "a")), Wire("x", "a", "b", Holding("a", "a")), Wire("x", "b", "a", Holding("a", "b"))):
            chip = Chip(Isle("a"), Isle("b", turns=(("sleep", 1, 1),)), wires=(wire,))
            self.assertEqual(ordered(chip, "a", ORDER), chip)
            self.assertEqual(type(error_of(ordered, chip, "b", ORDER)), HasTurns)

    def test_ordered(self):
        for order in itertools.islice(oraclepapers.orders(PAIR["a"]), 0, None, 97):
            self.assertEqual(ordered(PAIR, "a", order), PAIR.with_isles(Isle("a", sleep=order[0], wake=order[1])))
        self.assertEqual(ordered(chip=PAIR, name="a", order=ORDER), PAIR)
        few = PAIR.with_isles(Isle("a", sleep=("dark",), wake=("go", "lit")))
        self.assertEqual(ordered(few, "a", (("dark",), ("lit", "go")))["a"].wake, ("lit", "go"))

    def test_wrong_orders(self):
        sleep, wake = ORDER
        wrong = ANY + [(sleep,), (sleep, wake, ()), list(ORDER), (list(sleep), wake), (sleep[:3], wake), (sleep + ("dark",), wake),
                       (("still", "shut", "save", "save"), wake), (("still", "shut", "save", "lit"), wake), (wake, sleep), (None, None), ((), wake)]
        for value in wrong:
            error = error_of(ordered, PAIR, "a", value)
            self.assertEqual((type(error), error.which, error.part), (InvalidIsle, "a", "sleep"), value)
        for value in ANY + [list(wake), wake[:4], wake + ("go",), ("lit", "reset", "back", "open", "open"), sleep, ("lit", "reset", "back", "open", "dark")]:
            error = error_of(ordered, PAIR, "b", (sleep[::-1], value))
            self.assertEqual((type(error), error.which, error.part), (InvalidIsle, "b", "wake"), value)
        few = PAIR.with_isles(Isle("a", sleep=("dark",), wake=("go", "lit")))
        self.assertEqual(error_of(ordered, few, "a", ORDER).part, "sleep")
        self.assertEqual(error_of(ordered, few, "a", (("dark",), ("lit", "open"))).part, "wake")


class PapersTest(unittest.TestCase):

    def test_other_orders_and_runs_that_are_right(self):
        word, order, tables, needed, free = Orders(PAIR, "a").paper()
        for other in Orders(PAIR, "a").every_safe():
            thing = (word, other, verdict(ordered(PAIR, "a", other))[1], needed, free)
            self.assertIs(lets_orders(PAIR, "a", thing), True)
        longer = tuple((pair, row, question, [("tick", "shore"), *events]) for pair, row, question, events in needed)
        self.assertIs(lets_orders(PAIR, "a", (word, order, tables, longer, free)), True)

    def test_one_thing_wrong(self):
        word, order, tables, needed, free = Orders(PAIR, "b").paper()
        self.assertIs(lets_orders(PAIR, "b", (word, order, tables, needed, free)), True)
        for wrong in ((word, free[0][1], free[0][2], needed, free), (word, order, tables[1:], needed, free), (word, order, tables, needed[1:], free),
                      (word, order, tables, needed[::-1], free), (word, order, tables, needed + needed[:1], free),
                      (word, order, tables, needed, free[1:]), (word, order, tables, needed, free[::-1]), (word, order, tables, needed, free + free[:1]),
                      (word, order, tables, list(needed), free), (word, order, tables, needed, list(free)), (word, order, tables, needed),
                      ("none", order, tables, needed, free), [word, order, tables, needed, free],
                      (word, order, tables, needed, tuple((pair, row, more[:-1]) for pair, row, more in free)),
                      (word, order, tables, tuple((pair, order, *harm) for pair, _, *harm in needed), free),
                      (word, order, tables, tuple((pair, row, question, events[:-1]) for pair, row, question, events in needed), free),
                      (word, order, tables, needed, tuple((pair, order, tables) for pair, _, _ in free)),
                      (word, order, tables, needed, free + ((("shut", "save"), *free[0][1:]),))):
            self.assertIs(lets_orders(PAIR, "b", wrong), False)

    def test_a_pair_that_follows_from_others(self):
        # An order that breaks (lit, go) alone does not exist, so the paper cannot have it.
        word, order, tables, needed, free = Orders(PAIR, "a").paper()
        for pair in (("lit", "go"), ("still", "dark")):
            for row in needed:
                wrong = tuple(sorted([*needed, (pair, *row[1:])], key=lambda each: each[0]))
                self.assertIs(lets_orders(PAIR, "a", (word, order, tables, wrong, free)), False)

    def test_pairs_that_are_not_needed(self):
        # With the pair (shut, dark) of b taken as needed, no run shows it.
        word, order, tables, needed, free = Orders(PAIR, "b").paper()
        run = needed[0][2:]
        more = tuple(sorted([*needed, (("shut", "dark"), free[3][1], *run)], key=lambda each: each[0]))
        self.assertIs(lets_orders(PAIR, "b", (word, order, tables, more, free[:3])), False)

    def test_none(self):
        paper = Orders(LOST, "a").paper()
        self.assertIs(lets_orders(LOST, "a", paper), True)
        _, order, question, events = paper
        self.assertIs(lets_orders(LOST, "a", ("none", ORDER, question, events)), True)
        bad = (("dark", "still", "save", "shut"), Isle.WAKE)
        for wrong in (("none", bad, question, events), ("none", order, question, events[:-1]), ("none", order, ("isle", "z"), events),
                      ("none", order, question, tuple(events)), ("none", order, question), ("orders", order, question, events),
                      ("none", order, question, events, ()), ("none", (order[0][:3], order[1]), question, events), ("none", None, question, events)):
            self.assertIs(lets_orders(LOST, "a", wrong), False)
        safe = Orders(PAIR, "a").run(("back", "go"))
        self.assertIs(lets_orders(PAIR, "a", ("none", *safe)), False)

    def test_bent_by_chance(self):
        answers = {True: 0, False: 0}
        for number, (chip, _) in enumerate(CHIPS):
            dice = random.Random(number)
            thing = Orders(chip, "a").paper()
            for _ in range(40):
                wrong = bent(dice, thing)
                kept = copied(wrong)
                answer = lets_orders(chip, "a", wrong)
                self.assertIs(answer, oraclepapers.is_orders_paper(chip, "a", wrong), (str(chip), wrong))
                self.assertEqual(wrong, kept)
                answers[answer] += 1
        self.assertTrue(answers[False] > 400, answers)

    def test_any_values(self):
        word, order, tables, needed, free = Orders(PAIR, "a").paper()
        for value in ANY:
            self.assertIs(lets_orders(PAIR, "a", value), False)
            self.assertIs(lets_orders(PAIR, "a", (value, order, tables, needed, free)), False)
            self.assertIs(lets_orders(PAIR, "a", (word, value, tables, needed, free)), False)
            self.assertIs(lets_orders(PAIR, "a", (word, order, value, needed, free)), False)
            self.assertIs(lets_orders(PAIR, "a", (word, order, tables, value, free)), False)
            self.assertIs(lets_orders(PAIR, "a", (word, order, tables, needed[:1] + (value,), free)), False)
            self.assertIs(lets_orders(PAIR, "a", (word, order, tables, ((value, *needed[0][1:]), *needed[1:]), free)), False)
            self.assertIs(lets_orders(PAIR, "a", (word, order, tables, needed, (value,))), False)
            self.assertIs(lets_orders(PAIR, "a", ("none", order, value, [])), False)
            self.assertIs(lets_orders(PAIR, "a", ("none", value, ("isle", "a"), [])), False)
            if value != ():
                self.assertIs(lets_orders(PAIR, "a", (word, order, tables, needed, value)), False)

    def test_an_order_is_safe_exactly_if_the_chip_with_it_is(self):
        dice = random.Random(0)
        for name in "ab":
            orders = Orders(PAIR, name)
            for order in dice.sample(oraclepapers.orders(PAIR[name]), 60):
                self.assertIs(order in orders, is_safe(ordered(PAIR, name, order)))


if __name__ == "__main__":
    unittest.main()
