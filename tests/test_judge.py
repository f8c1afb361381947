"""[14] to [18], duskisles/judge.py and duskisles/shortest.py: safe questions, and runs at whose end they are bad."""

import itertools
import random
import unittest

import oracle
import oraclecones
from duskisles.chips import Chip
from duskisles.errors import NoQuestion, TooMany
from duskisles.isles import Isle
from duskisles.judge import judged
from duskisles.machines import parted
from duskisles.needs import Sleepers
from duskisles.runcheck import lets_run
from duskisles.shortest import shortest, whole_run
from duskisles.stations import Clamp, Holding, Pass
from duskisles.tables import least_table, rows_by_steps
from duskisles.wires import Wire
from made import made_chip
from test_cones import WRONG
from values import copied, error_of

X = ("wire", "x")
A = ("isle", "a")
HASTY = Isle("a", plain=0, sleep=("save", "still"), wake=("back", "go"))
SMALL = {"sleep": ("dark",), "wake": ("lit",)}


def down(name, count=4):
    return [("deed", name)] * count


def first_bad(chip, question, events):
    """How many of the events are done when the question is bad for the first time, or None; each must be able to come."""
    state = oracle.first(chip)
    for index, event in enumerate(events):
        assert event in oracle.events(chip, state), (index, event)
        state = oracle.step(chip, state, event)
        if oracle.is_bad(chip, state, question):
            return index + 1
    return None


def hanging(chip, names):
    """The isles that need one of these, or need such an isle, and so on."""
    above = lambda name: [other for other in chip.names if name in chip[other].needs]
    return oraclecones.reach([other for name in names for other in above(name)], above)


def small_chips(seeds, most=20000, isles=2, **kinds):
    """Yields chips with all their states."""
    for seed in seeds:
        chip = made_chip(random.Random(seed), isles, 3, whole=0.3, **kinds)
        size = 1
        for name in chip.names:
            size *= 3 * (len(chip[name].sleep) + len(chip[name].wake))
        if size <= 700:
            yield chip, oracle.every_state(chip, most)


def cone_state(chip, question, state):
    """What of a state a state of the cone has."""
    names = oraclecones.cone(chip, question)
    rows = dict(zip(chip.names, state[0]))
    whole = oraclecones.full(chip, question)
    held = dict(zip(oracle.holders(chip), state[1]))
    return (tuple(rows[name][:5] for name in names), rows[whole][5:] if whole else (),
            tuple(held[at] for at in sorted(held) if at[0] == question[1] and question[0] == "wire"))


def shortest_by_search(chip, question):
    """How many events of the cone lead to a bad state if all others are asleep, or None, and how many states of the cone come."""
    names = oraclecones.cone(chip, question)
    rows = []
    for name, row in zip(chip.names, oracle.first(chip)[0]):
        asleep = name not in names and name not in oraclecones.sleepless(chip)
        rows.append(("asleep",) + row[1:] if asleep else row)
    level = [(tuple(rows), oracle.first(chip)[1])]
    met, count, found = {cone_state(chip, question, level[0])}, 0, None
    whole = oraclecones.full(chip, question)
    while level:
        fresh = []
        for state in level:
            if oracle.is_bad(chip, state, question):
                found = count if found is None else found
                continue
            for event in oracle.events(chip, state):
                if event[1] in names and (event[0] != "tick" or event[1] == whole):
                    behind = oracle.step(chip, state, event)
                    if cone_state(chip, question, behind) not in met:
                        met.add(cone_state(chip, question, behind))
                        fresh.append(behind)
        level, count = fresh, count + 1
    return found, len(met)


def rows_of(words):
    """All rows of some of these words, in any order."""
    return [row for count in range(1, len(words) + 1) for row in itertools.permutations(words, count)]


def chips_of_one_isle():
    """All chips of one isle with such rows and a wire to the shore."""
    for sleep, wake in itertools.product(rows_of(("still", "save", "dark")), rows_of(("lit", "back", "go"))):
        yield Chip(Isle("a", plain=0, sleep=sleep, wake=wake), wires=(Wire("x", "a", "shore"),))


def chips_with_a_station():
    """All chips of an isle with its words in any order, whose wire to the shore has a station that b can make dusty."""
    stations = [Pass("b"), Clamp("b", "a"), Holding("shore", "a", line=("b",)), Clamp("shore", "a")]
    rows = itertools.product(itertools.permutations(("still", "shut", "dark")), itertools.permutations(("lit", "open", "go")))
    for (sleep, wake), station in itertools.product(rows, stations):
        yield Chip(Isle("a", kept=0, sleep=sleep, wake=wake), Isle("b", kept=0, **SMALL), wires=(Wire("x", "a", "shore", station),))


class JudgedTest(unittest.TestCase):

    def test_all_chips_of_a_kind_against_a_search_through_all_states(self):
        answers = {"safe": 0, "bad": 0}
        for chip in [*chips_of_one_isle(), *chips_with_a_station()]:
            states = oracle.every_state(chip)
            for question in (A, X):
                bad = any(oracle.is_bad(chip, state, question) for state in states)
                answer, found = judged(chip, question), shortest(chip, question)
                answers[answer[0]] += 1
                self.assertEqual((answer[0], found is not None), ("bad" if bad else "safe", bad))
                if bad:
                    self.assertEqual(first_bad(chip, question, answer[1]), len(answer[1]))
                    self.assertEqual(len(found), shortest_by_search(chip, question)[0])
                    self.assertEqual(first_bad(chip, question, found), len(found))
        self.assertTrue(min(answers.values()) > 50, answers)

    def test_safe(self):
        chip = Chip(Isle("a"), Isle("b"), wires=(Wire("x", "a", "b", Clamp("b", "a")),))
        for question in chip.questions:
            self.assertEqual(judged(chip, question), ("safe", least_table(chip, question)))

    def test_bad(self):
        chip = Chip(HASTY)
        word, events = judged(chip, A)
        self.assertEqual((word, first_bad(chip, A, events)), ("bad", len(events)))
        self.assertIs(type(events), list)
        events.clear()
        self.assertNotEqual(judged(chip, A)[1], [])

    def test_all_small_chips_against_a_search_through_all_states(self):
        answers = {"safe": 0, "bad": 0}
        for chip, states in small_chips(range(150), turns=1):
            for question in chip.questions:
                bad = any(oracle.is_bad(chip, state, question) for state in states)
                answer = judged(chip, question)
                answers[answer[0]] += 1
                self.assertEqual(answer[0], "bad" if bad else "safe")
                if bad:
                    self.assertEqual(first_bad(chip, question, answer[1]), len(answer[1]))
        self.assertTrue(min(answers.values()) > 100, answers)

    def test_which_events_may_be_among_them(self):
        for seed in range(150):
            chip = made_chip(random.Random(seed), 5, 3, whole=0.8)
            for question in chip.questions:
                word, found = judged(chip, question, most=200000)
                if word == "bad":
                    inside = oraclecones.cone(chip, question)
                    names = {event[1] for event in found}
                    self.assertLessEqual(names, set(inside) | hanging(chip, inside))
                    self.assertLessEqual({event[1] for event in found if event[0] == "tick"}, {oraclecones.full(chip, question)})
                    self.assertEqual(first_bad(chip, question, found), len(found))
                    self.assertTrue(lets_run(chip, question, found))
                    self.assertIsNotNone(parted(chip, found))

    def test_the_same_run_for_each_most_that_is_enough(self):
        chip = Chip(HASTY, Isle("b"), wires=(Wire("x", "a", "b", Pass("b")),))
        for question in (A, ("isle", "b"), X):
            count = len(list(rows_by_steps(chip, question)))
            answer = judged(chip, question)
            for most in (count, count + 1, 10 ** 30):
                self.assertEqual(judged(chip, question, most=most), answer)
            for most in (1, count - 1):
                error = error_of(judged, chip, question, most=most)
                self.assertIsInstance(error, TooMany)
                self.assertEqual(error.most, most)

    def test_one_row(self):
        chip = Chip(Isle("a", kept=0, sleeps=False))
        self.assertEqual(judged(chip, A, most=1)[0], "safe")

    def test_isles_outside_that_must_be_asleep(self):
        # d needs c, c needs a, e needs nobody: for a to leave up, d and c must be asleep.
        chip = Chip(HASTY, Isle("c", needs=("a",)), Isle("d", needs=("c",)), Isle("e"))
        word, events = judged(chip, A)
        self.assertEqual((word, events[:8], first_bad(chip, A, events)), ("bad", down("d") + down("c"), len(events)))
        self.assertEqual({event[1] for event in events[8:]}, {"a"})
        awake = chip.with_isles(Isle("d", needs=("c",), sleeps=False))
        self.assertEqual(judged(awake, A)[0], "safe")

    def test_renaming_changes_nothing_but_the_names(self):
        for seed in range(60):
            chip = made_chip(random.Random(seed), 3, 2)
            names = {name: other for name, other in zip(chip.names, ("zz", "yy", "xx"))}
            for question in chip.questions:
                other = (question[0], names.get(question[1], question[1]) if question[0] == "isle" else question[1])
                self.assertEqual(judged(chip, question)[0], judged(chip.renamed(names), other)[0])

    def test_rows_that_come_are_met_by_states_that_come(self):
        for chip, states in small_chips(range(60), turns=1):
            for question in chip.questions:
                if any(oracle.is_bad(chip, state, question) for state in states):
                    continue
                names = oraclecones.cone(chip, question)
                groups = {(name, stand): oraclecones.group(chip, question, name, stand) for name in names
                          for stand in oraclecones.stands(chip, question, name)}
                seen = {self.masked(chip, question, state) for state in states}
                rows = list(rows_by_steps(chip, question))
                for stands, marks, held in rows:
                    self.assertIn((stands, marks, held), seen)
                for owns, marks, held in seen:
                    self.assertTrue(any(row[1:] == (marks, held) and all(own in groups[name, stand] for name, own, stand
                                                                         in zip(names, owns, row[0])) for row in rows))

    def masked(self, chip, question, state):
        """A state as a row tells it, each isle with what is read of it."""
        owns, marks, held = cone_state(chip, question, state)
        rows = []
        for name, own in zip(oraclecones.cone(chip, question), owns):
            words = oraclecones.reads(chip, question, name)
            rows.append(own[:2] + tuple(flag if word in words else None for flag, word in zip(own[2:], ("clock", "shut", "away"))))
        return tuple(rows), marks, held

    def test_values_that_are_no_questions(self):
        chip = Chip(Isle("a"), wires=(Wire("x", "a", "shore"),))
        for work in (judged, shortest, lambda *values: judged(*values, most=1), lambda *values: shortest(*values, most=1),
                     lambda *values: whole_run(*values, [])):
            for value in WRONG:
                error = error_of(work, chip, value)
                self.assertIsInstance(error, NoQuestion)
                self.assertIs(error.value, value)


class ShortestTest(unittest.TestCase):

    def test_against_a_search(self):
        lengths = []
        for seed in range(150):
            dice = random.Random(seed)
            chip = made_chip(dice, 3, 2, whole=0.2, turns=2)
            for question in chip.questions:
                size = 1
                for name in oraclecones.cone(chip, question):
                    size *= len(chip[name].sleep) + len(chip[name].wake)
                if size > 60:
                    continue
                length, count = shortest_by_search(chip, question)
                found = shortest(chip, question, most=count)
                self.assertEqual(found if found is None else len(found), length)
                self.assertEqual(shortest(chip, question), found)
                self.assertEqual(judged(chip, question)[0], "safe" if found is None else "bad")
                for most in {1, count - 1} - {0, count}:
                    error = error_of(shortest, chip, question, most=most)
                    self.assertIsInstance(error, TooMany)
                    self.assertEqual(error.most, most)
                if found is not None:
                    lengths.append(length)
                    self.assertLessEqual({event[1] for event in found}, set(oraclecones.cone(chip, question)))
                    events = whole_run(chip, question, found)
                    self.assertEqual(events[len(events) - len(found):], found)
                    self.assertEqual(first_bad(chip, question, events), len(events))
        self.assertTrue(len(lengths) > 80 and max(lengths) > 5)

    def test_ticks_and_silent_events_are_counted(self):
        self.assertEqual(shortest(Chip(HASTY), A), [("deed", "a"), ("tick", "a"), ("deed", "a"), ("deed", "a"), ("deed", "a")])
        chip = Chip(Isle("a"), Isle("b"), wires=(Wire("x", "a", "shore", Pass("b")),))
        self.assertEqual(shortest(chip, X), down("a"))
        chip = Chip(Isle("a"), Isle("b", sleep=("still", "dark")), wires=(Wire("x", "a", "shore", Pass("b")),))
        self.assertEqual(shortest(chip, X), down("b", 2))

    def test_answers_belong_to_the_caller(self):
        chip = Chip(HASTY)
        shortest(chip, A).clear()
        self.assertEqual(len(shortest(chip, A)), 5)

    def test_all_states_are_counted_ahead_of_an_answer(self):
        chip = Chip(Isle("a", **SMALL), Isle("b"))
        self.assertEqual(shortest(chip, A, most=4), down("a", 1))
        self.assertEqual(shortest_by_search(chip, A)[1], 4)
        self.assertIsInstance(error_of(shortest, chip, A, most=3), TooMany)


class WholeRunTest(unittest.TestCase):

    def test_isles_outside_in_rows(self):
        # c and e need a; d needs c; f needs b; g needs d; nobody of these is in the cone of a.
        chip = Chip(HASTY, Isle("b"), Isle("c", needs=("a",), **SMALL), Isle("d", needs=("c",), sleep=("shut", "dark")), Isle("e", needs=("a",)),
                    Isle("f", needs=("b",)), Isle("g", needs=("d",), **SMALL))
        found = shortest(chip, A)
        events = whole_run(chip, A, found)
        self.assertEqual(events, Sleepers(chip, "c", "d", "e", "g").deeds() + found)
        self.assertEqual(events[:8], [("deed", "e")] * 4 + [("deed", "g"), ("deed", "d"), ("deed", "d"), ("deed", "c")])
        self.assertEqual(first_bad(chip, A, events), len(events))

    def test_only_isles_that_need_one_that_leaves_up(self):
        chip = Chip(Isle("a"), Isle("b", **SMALL), Isle("c", needs=("a",)), Isle("d", needs=("b",)), wires=(Wire("x", "a", "shore", Pass("b")),))
        found = shortest(chip, X)
        self.assertEqual((found, whole_run(chip, X, found)), ([("deed", "b")], down("d") + [("deed", "b")]))
        given = [("tick", "a"), ("deed", "b")]
        kept = copied(given)
        self.assertEqual(whole_run(chip, X, given), down("d") + given)
        self.assertEqual(given, kept)
        self.assertEqual(whole_run(chip, X, [("tick", "a")]), [("tick", "a")])
        self.assertEqual(whole_run(chip, X, []), [])

    def test_isles_of_the_cone_that_need_one_of_it_are_not_put_to_sleep(self):
        chip = Chip(HASTY.changed(needs=("b",)), Isle("b", **SMALL), Isle("c", needs=("a", "b"), **SMALL))
        found = shortest(chip, A)
        self.assertEqual(whole_run(chip, A, found), [("deed", "c")] + found)

    def test_judged_runs_of_needs_in_rows(self):
        for seed in range(80):
            chip = made_chip(random.Random(seed), 4, 2, whole=0.5, needs=2)
            for question in chip.questions:
                found = shortest(chip, question, most=10 ** 6) if len(oraclecones.cone(chip, question)) < 4 else None
                if found is not None:
                    events = whole_run(chip, question, found)
                    self.assertEqual(first_bad(chip, question, events), len(events))


if __name__ == "__main__":
    unittest.main()
