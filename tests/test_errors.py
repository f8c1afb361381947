"""[2], duskisles/errors.py: the error classes."""

import unittest

from duskisles import errors
from values import ANY

BASES = {"DuskError": ValueError, "AbsentError": LookupError, "TurnError": RuntimeError, "SizeError": OverflowError}

LISTED = {
    "DuskError": {"InvalidName": ["value"], "InvalidIsle": ["which", "part"], "InvalidStation": ["part"],
                  "InvalidWire": ["which", "part"], "InvalidChip": ["part", "which"], "InvalidEvent": ["index"],
                  "InvalidLogic": ["which"], "InvalidText": ["row", "word"], "UnknownCommand": []},
    "AbsentError": {"NoIsle": ["which"], "NoWire": ["which"], "NoPart": ["which"], "NoQuestion": ["value"],
                    "NoSpot": ["value"], "NoPair": ["value"], "NoState": ["value"]},
    "TurnError": {"NotNow": ["index"], "NotLet": ["event"], "CannotSleep": ["which"], "NothingToUndo": ["count"],
                  "HasTurns": ["which"], "HoldsOwn": ["which"], "NotSafe": ["question", "steps"]},
    "SizeError": {"TooMany": ["most"]},
}

ROWS = [(base, name, parts) for base, classes in LISTED.items() for name, parts in classes.items()]


class ErrorsTest(unittest.TestCase):

    def test_bases_stand_under_pythons_own_errors(self):
        for name, above in BASES.items():
            self.assertEqual(getattr(errors, name).__bases__, (above,), name)

    def test_each_class_has_its_one_base(self):
        for base, name, _ in ROWS:
            self.assertEqual(getattr(errors, name).__bases__, (getattr(errors, base),), name)

    def test_no_class_is_caught_by_another_one(self):
        for _, name, parts in ROWS:
            error = getattr(errors, name)(*parts)
            catching = [other for _, other, _ in ROWS if isinstance(error, getattr(errors, other))]
            self.assertEqual(catching, [name])

    def test_only_the_own_base_catches(self):
        for base, name, parts in ROWS:
            error = getattr(errors, name)(*parts)
            self.assertEqual([other for other in BASES if isinstance(error, getattr(errors, other))], [base], name)

    def test_nothing_is_missing_and_nothing_else_is_there(self):
        classes = [name for name, thing in vars(errors).items() if isinstance(thing, type)]
        self.assertEqual(sorted(classes), sorted(list(BASES) + [name for _, name, _ in ROWS]))

    def test_each_error_keeps_any_arguments(self):
        for _, name, parts in ROWS:
            for value in ANY:
                given = [(value, part) for part in parts]
                error = getattr(errors, name)(*given)
                self.assertEqual([getattr(error, part) for part in parts], given)
                self.assertEqual(list(vars(error)), parts)

    def test_each_error_keeps_the_very_arguments(self):
        for _, name, parts in ROWS:
            given = [[part] for part in parts]
            error = getattr(errors, name)(*given)
            self.assertTrue(all(getattr(error, part) is each for part, each in zip(parts, given)), name)

    def test_arguments_may_be_passed_by_name(self):
        for _, name, parts in ROWS:
            error = getattr(errors, name)(**{part: [part] for part in parts})
            self.assertEqual(vars(error), {part: [part] for part in parts})

    def test_wrong_numbers_of_arguments_are_refused(self):
        for _, name, parts in ROWS:
            if parts:
                self.assertRaises(TypeError, getattr(errors, name), *parts, "more")
                self.assertRaises(TypeError, getattr(errors, name), *parts[1:])

    def test_repr_shows_the_arguments(self):
        self.assertEqual(repr(errors.InvalidIsle("a", "sleep")), "InvalidIsle('a', 'sleep')")
        self.assertEqual(repr(errors.UnknownCommand()), "UnknownCommand()")


if __name__ == "__main__":
    unittest.main()
