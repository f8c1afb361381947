"""[6], [8], duskisles/keepers.py: keepers."""

import itertools
import unittest

from duskisles.errors import InvalidEvent, NoState, NotNow
from duskisles.isles import Isle
from duskisles.keepers import Keeper, own_states
from values import ANY, copied, error_of, is_assigned, raised

DEED = ("deed", "a")
FLAGS = {"still": (0, False), "go": (0, True), "shut": (1, True), "open": (1, False), "dark": (2, True), "lit": (2, False)}
FIRST = ("up", 0, True, False, False)


def rows_of(words):
    return [row for count in range(1, len(words) + 1) for row in itertools.permutations(words, count)]


def turn(index):
    return ("turn", "a", index)


class DeedsTest(unittest.TestCase):

    def test_at_first_all_is_up(self):
        isle = Isle("a")
        keeper = Keeper(isle)
        self.assertEqual([keeper.isle, keeper.post, keeper.flags, keeper.own, keeper.options()],
                         [isle, ("up", 0), (True, False, False), FIRST, (DEED,)])
        for part in ("isle", "post", "flags"):
            self.assertFalse(is_assigned(keeper, part, getattr(keeper, part)))

    def goes_round(self, sleep, wake):
        keeper = Keeper(Isle("a", sleep=sleep, wake=wake))
        flags = [True, False, False]
        for row, between, end in ((sleep, "falling", "asleep"), (wake, "waking", "up")):
            for count, word in enumerate(row, 1):
                if word in FLAGS:
                    flags[FLAGS[word][0]] = FLAGS[word][1]
                self.assertEqual(keeper.do(DEED), (word,))
                self.assertEqual(keeper.post, (end, 0) if count == len(row) else (between, count))
                self.assertEqual([keeper.flags, keeper.own], [tuple(flags), (*keeper.post, *flags)])

    def test_rows_of_all_words_in_any_order(self):
        for sleep in rows_of(Isle.SLEEP):
            self.goes_round(sleep, Isle.WAKE)
        for wake in rows_of(Isle.WAKE):
            self.goes_round(Isle.SLEEP, wake)

    def test_rows_of_one_word(self):
        for sleep, wake in itertools.product(Isle.SLEEP, Isle.WAKE):
            self.goes_round((sleep,), (wake,))
            keeper = Keeper(Isle("a", sleep=(sleep,), wake=(wake,)))
            self.assertEqual([keeper.do(DEED), keeper.post, keeper.do(DEED), keeper.post],
                             [(sleep,), ("asleep", 0), (wake,), ("up", 0)])

    def test_needs_and_sleeps_are_not_looked_at(self):
        keeper = Keeper(Isle("a", needs=("b", "c"), sleeps=False, leash=("d",)))
        self.assertEqual([keeper.do(*[DEED] * 9), keeper.post], [Isle.SLEEP + Isle.WAKE, ("up", 0)])

    def test_several_events_at_once(self):
        keeper = Keeper(Isle("a"))
        self.assertEqual([keeper.do(), keeper.own], [(), FIRST])
        self.assertEqual([keeper.do(*[DEED] * 5), keeper.own], [Isle.SLEEP + ("lit",), ("waking", 1, False, True, False)])

    def test_two_keepers_of_one_isle(self):
        isle = Isle("a")
        one, two = Keeper(isle), Keeper(isle)
        one.do(DEED, DEED)
        two.do(DEED)
        self.assertEqual([one.post, two.post, one.flags, two.flags],
                         [("falling", 2), ("falling", 1), (False, True, False), (False, False, False)])
        one.own = two.own
        two.do(DEED)
        self.assertEqual([one.post, two.post], [("falling", 1), ("falling", 2)])


class TurnsTest(unittest.TestCase):

    def setUp(self):
        self.isle = Isle("a", sleep=("shut", "still", "dark"), wake=("lit", "go", "open"),
                         turns=(("sleep", 1, 0), ("wake", 1, 0), ("sleep", 1, 2), ("wake", 2, 1), ("sleep", 2, 1), ("wake", 1, 2)))
        self.keeper = Keeper(self.isle)

    def test_options_are_those_out_of_the_post(self):
        for events, options in (([], [DEED]), ([DEED], [DEED, turn(0), turn(2)]), ([DEED] * 2, [DEED, turn(4)]),
                                ([DEED] * 3, [DEED]), ([DEED] * 4, [DEED, turn(1), turn(5)]), ([DEED] * 5, [DEED, turn(3)]),
                                ([DEED] * 6, [DEED])):
            keeper = Keeper(self.isle)
            keeper.do(*events)
            self.assertEqual(keeper.options(), tuple(options))
            for event in [DEED] + [turn(index) for index in range(6)]:
                self.assertIs(keeper(event), event in options)

    def test_counts_of_nothing_come_by_turns(self):
        self.assertEqual([self.keeper.do(DEED, turn(0)), self.keeper.own], [("shut",), ("waking", 0, True, True, False)])
        self.assertEqual([self.keeper.options(), self.keeper.do(DEED), self.keeper.post], [(DEED,), ("lit",), ("waking", 1)])
        self.assertEqual([self.keeper.do(turn(1)), self.keeper.own], [(), ("falling", 0, True, True, False)])
        self.assertEqual([self.keeper.options(), self.keeper.do(DEED), self.keeper.post], [(DEED,), ("shut",), ("falling", 1)])

    def test_turns_change_the_post_alone(self):
        self.assertEqual([self.keeper.do(DEED, turn(2)), self.keeper.own], [("shut",), ("waking", 2, True, True, False)])
        self.assertEqual([self.keeper.do(DEED), self.keeper.own], [("open",), FIRST])
        self.assertEqual([self.keeper.do(DEED, DEED, turn(4)), self.keeper.own],
                         [("shut", "still"), ("waking", 1, False, True, False)])
        self.assertEqual([self.keeper.do(turn(5)), self.keeper.own], [(), ("falling", 2, False, True, False)])
        self.assertEqual([self.keeper.do(DEED, DEED, DEED, turn(3)), self.keeper.own],
                         [("dark", "lit", "go"), ("falling", 1, True, True, False)])

    def test_indexes_are_integers(self):
        self.keeper.do(DEED)
        for index, told in ((0, True), (False, False), (2, True), (True, False), ("0", False), (None, False)):
            self.assertIs(self.keeper(turn(index)), told)
        self.assertEqual(raised(self.keeper.do, turn(False)), "InvalidEvent(0)")

    def test_one_post_in_both_rows(self):
        keeper = Keeper(Isle("a", turns=(("wake", 1, 1), ("sleep", 1, 1))))
        keeper.do(DEED)
        self.assertEqual(keeper.options(), (DEED, turn(1)))
        keeper.do(*[DEED] * 4)
        self.assertEqual([keeper.post, keeper.options()], [("waking", 1), (DEED, turn(0))])


class RefusedTest(unittest.TestCase):

    def setUp(self):
        self.keeper = Keeper(Isle("a", turns=(("sleep", 1, 1), ("wake", 2, 0))))

    def wrong(self):
        strange = [("deed", "b"), ("deed",), ("deed", "a", 0), ("deed", None), ["deed", "a"], ("turn", "a"), ("turn", "b", 0),
                   ("turn", "a", 2), ("turn", "a", -1), ("turn", "a", False), ("turn", "a", True), ("turn", "a", "0"),
                   ("turn", "a", 0, 0), ("turn", "a", None), ("turn", "a", [0]), ["turn", "a", 0], ("tick", "a"), ("tick", "a", 0),
                   ("Deed", "a"), (["deed"], "a"), ("deed", ["a"]), ("deed", {}), ("tick", "shore")]
        return [each for each in ANY + strange if each != DEED]

    def test_values_that_are_no_events(self):
        for value in self.wrong():
            before = copied(value)
            self.assertIs(self.keeper(value), False)
            for index in range(3):
                events = [DEED] * index + [value, None]
                error = error_of(self.keeper.do, *events)
                self.assertEqual((type(error), error.index), (InvalidEvent, index))
            self.assertEqual([self.keeper.own, value], [FIRST, before])

    def test_events_that_cannot_be_next(self):
        for events, index in (([turn(0)], 0), ([turn(1)], 0), ([DEED, turn(1)], 1), ([DEED, DEED, turn(0), DEED], 2),
                              ([DEED, turn(0), turn(0)], 2), ([DEED, turn(0), DEED, turn(1), turn(1), turn(0)], 4)):
            error = error_of(self.keeper.do, *events)
            self.assertEqual((type(error), error.index, self.keeper.own), (NotNow, index, FIRST))

    def test_wrong_events_go_ahead(self):
        for value in self.wrong():
            error = error_of(self.keeper.do, turn(1), DEED, value, None)
            self.assertEqual((type(error), error.index, self.keeper.own), (InvalidEvent, 2, FIRST))

    def test_nothing_is_changed(self):
        self.keeper.do(DEED, DEED)
        own = self.keeper.own
        self.assertEqual(raised(self.keeper.do, DEED, DEED, turn(0)), "NotNow(2)")
        self.assertEqual(raised(self.keeper.do, DEED, DEED, "a"), "InvalidEvent(2)")
        self.assertEqual(self.keeper.own, own)


class OwnTest(unittest.TestCase):

    def test_own_states(self):
        self.assertEqual(own_states(Isle("a", sleep=("save",), wake=("back",))), (("asleep", 0, True, False, False), FIRST))
        self.assertEqual(own_states(Isle("a", sleep=("still",), wake=("back",))),
                         (("asleep", 0, False, False, False), ("up", 0, False, False, False), FIRST))
        turns = Isle("a", sleep=("shut", "dark"), wake=("lit", "open"), turns=(("sleep", 1, 0), ("wake", 1, 1)))
        self.assertEqual(own_states(turns), (
            ("asleep", 0, True, True, True), ("falling", 1, True, True, False), ("up", 0, True, False, False),
            ("waking", 0, True, True, False), ("waking", 1, True, True, False)))

    def test_own_states_are_those_that_come(self):
        turns = (("sleep", 2, 0), ("wake", 2, 1), ("sleep", 3, 4), ("wake", 4, 0))
        for isle in (Isle("a", turns=turns), Isle("a", turns=turns, sleep=("dark", "save", "still", "shut"),
                                                  wake=("go", "lit", "back", "open", "reset"), needs=("b",), sleeps=False)):
            met, keeper = [FIRST], Keeper(isle)
            for own in met:
                keeper.own = own
                for event in keeper.options():
                    keeper.set_own(own)
                    keeper.do(event)
                    if keeper.own not in met:
                        met.append(keeper.own)
            self.assertEqual(own_states(isle), tuple(sorted(met)))

    def test_own_states_that_come_are_assigned(self):
        isle = Isle("a", turns=(("sleep", 2, 0), ("wake", 2, 1)))
        for own in own_states(isle):
            one, two = Keeper(isle), Keeper(isle)
            one.own = own
            self.assertIsNone(two.set_own(own))
            for keeper in (one, two):
                self.assertEqual([keeper.own, keeper.post, keeper.flags], [own, own[:2], own[2:]])

    def test_values_that_are_none(self):
        isle = Isle("a", sleep=("still", "dark"), wake=("lit", "go"))
        keeper = Keeper(isle)
        keeper.do(DEED)
        own = keeper.own
        strange = [("falling", 1, True, False, False), ("falling", 0, False, False, False), ("falling", 2, False, False, True),
                   ("up", 0, 1, 0, 0), ("up", False, True, False, False), ["up", 0, True, False, False], ("up", 0, True, False),
                   ("up", 0, True, False, False, False), ("up", 0, 1, False, False), ("up", 0, True, 0, False), ("asleep", 0, True, False, False), ("up", 0, True, False, 0),
                   (["up"], 0, True, False, False), ("up", 0, True, False, None), ("up", [], True, False, False),
                   ("up", 0, "", {}, ())]
        for value in ANY + strange:
            error = error_of(keeper.set_own, value)
            self.assertEqual((type(error), error.value), (NoState, value))
            error = error_of(setattr, keeper, "own", value)
            self.assertEqual((type(error), error.value), (NoState, value))
            self.assertEqual(keeper.own, own)


if __name__ == "__main__":
    unittest.main()
