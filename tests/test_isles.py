"""[4], duskisles/isles.py: isles."""

import unittest

from duskisles.errors import InvalidIsle, InvalidName, NoPart
from duskisles.isles import Isle
from values import ANY, copied, error_of, is_assigned, raised

PARTS = ["name", "kept", "plain", "leash", "needs", "sleeps", "sleep", "wake", "turns"]
DEFAULTS = {"kept": 1, "plain": 1, "leash": (), "needs": (), "sleeps": True,
            "sleep": ("still", "shut", "save", "dark"), "wake": ("lit", "reset", "back", "open", "go"), "turns": ()}
SEVEN = ("b", "c", "d", "e", "f", "g", "h")
SIX_TURNS = (("sleep", 1, 0), ("sleep", 1, 1), ("sleep", 2, 0), ("sleep", 3, 4), ("wake", 4, 3), ("wake", 1, 0))

RIGHT = {
    "kept": [0, 1, 2, 3],
    "plain": [0, 1, 2, 3],
    "leash": [(), ("b",), ("c", "b"), ("e", "d", "c", "b")],
    "needs": [(), ("b",), SEVEN],
    "sleeps": [True, False],
    "sleep": [("still",), ("dark", "save", "shut", "still"), ("shut", "dark")],
    "wake": [("go",), ("go", "open", "back", "reset", "lit"), ("lit", "go")],
    "turns": [(), (("sleep", 1, 0),), (("sleep", 3, 4), ("wake", 4, 3)), SIX_TURNS],
}
WRONG = {
    "kept": [4, -1, True, False, None, "1", (1,), [1], {}, 10 ** 59],
    "plain": [4, -1, True, False, None, "1", (1,), [1], {}, 10 ** 59],
    "leash": [("a",), ("b", "a"), ("b", "b"), ("shore",), ("b", "c", "d", "e", "f"), ["b"], "b", None, {}, (1,),
              (["b"],), 0, True],
    "needs": [("a",), ("b", "a"), ("b", "b"), ("shore",), SEVEN + ("i",), ["b"], "b", None, {}, (1,), (["b"],), 0,
              True],
    "sleeps": [0, 1, None, "True", (), [], {}],
    "sleep": [(), ("still", "still"), ("lit",), ("still", "go"), ["still"], "still", None, {}, (1,), (["still"],), True],
    "wake": [(), ("go", "go"), ("still",), ("lit", "dark"), ["go"], "go", None, {}, (1,), (["go"],), True],
    "turns": [(("sleep", 0, 0),), (("sleep", 4, 0),), (("sleep", 1, 5),), (("sleep", 1, -1),), (("wake", 0, 0),),
              (("wake", 5, 0),), (("wake", 1, 4),), (("wake", 1, -1),), (("sleep", 1, 0), ("sleep", 1, 0)),
              SIX_TURNS + (("wake", 2, 0),), (("sleep", True, 0),), (("sleep", 1, False),), (("sleep", 1),),
              (("sleep", 1, 0, 0),), (["sleep", 1, 0],), [("sleep", 1, 0)], (("up", 1, 0),), ((None, 1, 0),),
              ((["sleep"], 1, 0),), (("sleep", "1", 0),), (("sleep", [], {}),), ("sleep", 1, 0), None, {}, "", 1],
}


class IsleTest(unittest.TestCase):

    def test_defaults(self):
        isle = Isle("a")
        self.assertEqual({part: getattr(isle, part) for part in DEFAULTS}, DEFAULTS)
        self.assertEqual([isle.name, isle.size], ["a", 2])
        self.assertEqual([Isle.SLEEP, Isle.WAKE], [DEFAULTS["sleep"], DEFAULTS["wake"]])

    def test_right_parts_are_kept_as_they_are(self):
        for part, values in RIGHT.items():
            for value in values:
                isle = Isle("a", **{part: value})
                self.assertEqual(getattr(isle, part), value)
                self.assertIs(type(getattr(isle, part)), type(value))
                self.assertEqual([getattr(isle, other) for other in DEFAULTS if other != part],
                                 [DEFAULTS[other] for other in DEFAULTS if other != part])

    def test_all_parts_at_once(self):
        isle = Isle("b", kept=0, plain=3, leash=("c", "a"), needs=("d", "a"), sleeps=False, sleep=("save", "still"),
                    wake=("go", "lit"), turns=(("wake", 1, 1), ("sleep", 1, 0)))
        self.assertEqual([getattr(isle, part) for part in PARTS + ["size"]],
                         ["b", 0, 3, ("c", "a"), ("a", "d"), False, ("save", "still"), ("go", "lit"),
                          (("wake", 1, 1), ("sleep", 1, 0)), 3])

    def test_wrong_names(self):
        for value in ("", "shore", "A", "abcdefghi", "a b", None, 0, True, ("a",), ["a"], {}, b"a"):
            for more in ({}, {"kept": 9}):
                error = error_of(Isle, value, **more)
                self.assertIs(type(error), InvalidName)
                self.assertIs(error.value, value)

    def test_each_wrong_part_is_named(self):
        for part, values in WRONG.items():
            for value in values:
                before = copied(value)
                error = error_of(Isle, "a", **{part: value})
                self.assertEqual((type(error), error.which, error.part), (InvalidIsle, "a", part), value)
                self.assertEqual(value, before)

    def test_any_value_is_right_or_refused(self):
        for part in PARTS:
            for value in ANY:
                given = {"name": "a", part: value}
                try:
                    isle = Isle(**given)
                except (InvalidName, InvalidIsle) as error:
                    self.assertEqual(type(error) is InvalidName, part == "name")
                    self.assertTrue(part == "name" or error.part == part)
                else:
                    self.assertEqual(getattr(isle, part), value)

    def test_no_registers(self):
        self.assertEqual(raised(Isle, "a", kept=0, plain=0), "InvalidIsle('a', 'registers')")
        self.assertEqual(raised(Isle, "a", kept=0, plain=0, leash=None), "InvalidIsle('a', 'registers')")
        self.assertEqual(raised(Isle, "a", kept=0, plain=4), "InvalidIsle('a', 'plain')")
        self.assertEqual([Isle("a", kept=0).size, Isle("a", plain=0).size, Isle("a", kept=3, plain=3).size], [1, 1, 6])

    def test_the_first_of_two_wrong_parts_is_named(self):
        parts = list(WRONG)
        for index, first in enumerate(parts):
            for second in parts[index + 1:]:
                error = error_of(Isle, "a", **{second: WRONG[second][0], first: WRONG[first][0]})
                self.assertEqual((error.which, error.part), ("a", first))

    def test_needs_come_in_any_order(self):
        self.assertEqual(Isle("a", needs=("d", "b", "c")).needs, ("b", "c", "d"))
        self.assertEqual(Isle("a", needs=("d", "b", "c")), Isle("a", needs=("c", "d", "b")))

    def test_leashes_and_turns_keep_their_order(self):
        self.assertEqual(Isle("a", leash=("d", "b")).leash, ("d", "b"))
        self.assertNotEqual(Isle("a", leash=("d", "b")), Isle("a", leash=("b", "d")))
        turns = (("wake", 1, 1), ("sleep", 1, 1))
        self.assertEqual(Isle("a", turns=turns).turns, turns)
        self.assertNotEqual(Isle("a", turns=turns), Isle("a", turns=turns[::-1]))

    def test_turns_hang_on_the_rows(self):
        for row, other in (("sleep", "wake"), ("wake", "sleep")):
            one = {"sleep": ("still",), "wake": ("go",)}[row]
            self.assertEqual(raised(Isle, "a", **{row: one, "turns": ((row, 1, 0),)}), "InvalidIsle('a', 'turns')")
            self.assertIsNone(raised(Isle, "a", **{row: one, "turns": ((other, 1, 0),)}))
            self.assertEqual(raised(Isle, "a", **{row: one, "turns": ((other, 1, 1),)}), "InvalidIsle('a', 'turns')")

    def test_turns_at_their_bounds(self):
        rows = {"sleep": ("still", "dark", "save"), "wake": ("lit", "go")}
        for turn in (("sleep", 1, 0), ("sleep", 2, 1), ("wake", 1, 0), ("wake", 1, 2)):
            self.assertIsNone(raised(Isle, "a", turns=(turn,), **rows), turn)
        for turn in (("sleep", 0, 0), ("sleep", 3, 0), ("sleep", 1, 2), ("wake", 0, 0), ("wake", 2, 0), ("wake", 1, 3)):
            self.assertEqual(raised(Isle, "a", turns=(turn,), **rows), "InvalidIsle('a', 'turns')", turn)

    def test_changed_exchanges_parts(self):
        isle = Isle("a", kept=2, leash=("b",))
        for part, values in RIGHT.items():
            for value in values:
                other = isle.changed(**{part: value}) if (part, value) != ("plain", 0) else isle.changed(plain=0, kept=1)
                self.assertIs(type(other), Isle)
                self.assertEqual(getattr(other, part), value)
        self.assertEqual(isle, Isle("a", kept=2, leash=("b",)))
        self.assertEqual(isle.changed(name="c").name, "c")
        self.assertEqual(isle.changed(name="c").leash, ("b",))
        self.assertEqual(isle.changed(), isle)
        self.assertEqual(isle.changed(kept=1, leash=()), Isle("a"))

    def test_changed_with_wrong_parts(self):
        isle = Isle("a", leash=("b",))
        for part, values in WRONG.items():
            for value in values:
                self.assertEqual(raised(isle.changed, **{part: value}), f"InvalidIsle('a', '{part}')")
        self.assertEqual(raised(isle.changed, name="b"), "InvalidIsle('b', 'leash')")
        self.assertEqual(raised(isle.changed, name="shore"), "InvalidName('shore')")
        self.assertEqual(raised(isle.changed, name=None, kept=9), "InvalidName(None)")
        self.assertEqual(raised(Isle("a", plain=0).changed, kept=0), "InvalidIsle('a', 'registers')")
        self.assertEqual(raised(Isle("a", turns=(("sleep", 3, 0),)).changed, sleep=("dark",)),
                         "InvalidIsle('a', 'turns')")
        self.assertEqual(isle, Isle("a", leash=("b",)))

    def test_changed_with_names_that_are_no_parts(self):
        isle = Isle("a")
        for name in ("size", "Name", "nam", "SLEEP", "parts", "zone"):
            error = error_of(isle.changed, **{name: 1})
            self.assertEqual((type(error), error.which), (NoPart, name))
        self.assertEqual(raised(isle.changed, zone=1, size=1, kept=9, name=None), "NoPart('size')")

    def test_equality_with_one_part_otherwise(self):
        for part, values in RIGHT.items():
            for value in values:
                given = {"kept": 1, part: value} if value != 0 else {"plain": 1, "kept": 1, part: value}
                self.assertEqual(Isle("a", **given) == Isle("a"), given[part] == DEFAULTS[part])
                self.assertEqual(Isle("a", **given) != Isle("a"), given[part] != DEFAULTS[part])
                self.assertEqual(Isle("a", **given), Isle("a", **given))
        self.assertNotEqual(Isle("a"), Isle("b"))

    def test_equality_with_other_values(self):
        for value in ANY:
            self.assertIs(Isle("a") == value, False)
            self.assertIs(value == Isle("a"), False)

    def test_repr(self):
        self.assertEqual(repr(Isle("a")), "Isle(a)")
        self.assertEqual(repr(Isle("abcdefgh", kept=0)), "Isle(abcdefgh)")

    def test_nothing_can_be_assigned(self):
        isle = Isle("a")
        for part in PARTS + ["size"]:
            self.assertFalse(is_assigned(isle, part, DEFAULTS.get(part, "b")), part)
        self.assertEqual(isle, Isle("a"))

    def test_parts_are_passed_by_name(self):
        self.assertRaises(TypeError, Isle, "a", 1)
        self.assertEqual(Isle(name="a"), Isle("a"))


if __name__ == "__main__":
    unittest.main()
