"""duskisles/book.py: a chip that is changed, with its history."""

import random
import unittest

from duskisles.book import Book
from duskisles.chips import Chip
from duskisles.errors import InvalidChip, NoIsle, NothingToUndo
from duskisles.isles import Isle
from values import ANY, error_of

CHIP = Chip(Isle("a"), Isle("b", sleeps=False))


def numbered(number):
    """One of many different chips."""
    return Chip(Isle("a", kept=number % 4, leash=("bcdefg"[number // 4 % 6],)), *[Isle(letter) for letter in "bcdefg"],
                Isle("h", plain=1 + number // 24 % 3), shore=1 + number // 72)


class Failed(Exception):
    pass


class BookTest(unittest.TestCase):

    def test_present(self):
        book = Book(CHIP)
        self.assertEqual((book.present, len(book)), (CHIP, 0))
        book.present = Chip(Isle("c"))
        self.assertEqual((book.present, len(book)), (Chip(Isle("c")), 1))
        for value in ANY + [Isle("a"), book]:
            error = error_of(setattr, book, "present", value)
            self.assertEqual((type(error), error.part, error.which), (InvalidChip, "chip", None))
        self.assertEqual((book.present, len(book)), (Chip(Isle("c")), 1))

    def test_change(self):
        book = Book(CHIP)
        seen = []

        def work(chip):
            seen.append(chip)
            return chip.with_isles(Isle("c"))
        self.assertEqual(book.change(work), CHIP.with_isles(Isle("c")))
        self.assertEqual((seen, book.present, len(book)), ([CHIP], CHIP.with_isles(Isle("c")), 1))
        self.assertEqual(book.change(work=lambda chip: chip), book.present)
        self.assertEqual(len(book), 2)

    def test_errors_of_the_function(self):
        book = Book(CHIP)
        book.rest("a")
        book.undo()

        def fail(chip):
            raise Failed()
        self.assertIsInstance(error_of(book.change, fail), Failed)
        for value in ANY + [Isle("a")]:
            error = error_of(book.change, lambda chip: value)
            self.assertEqual((type(error), error.part, error.which), (InvalidChip, "chip", None))
        self.assertEqual((book.present, len(book), book.redo()["a"].sleeps), (CHIP, 0, False))

    def test_rest_and_rouse(self):
        book = Book(CHIP)
        self.assertIsNone(book.rest("a", "b", "a"))
        self.assertEqual((book.present, len(book)), (Chip(Isle("a", sleeps=False), Isle("b", sleeps=False)), 1))
        self.assertIsNone(book.rouse("b"))
        self.assertEqual((book.present, len(book)), (Chip(Isle("a", sleeps=False), Isle("b")), 2))
        book.rest()
        book.rouse()
        self.assertEqual((book.present, len(book)), (Chip(Isle("a", sleeps=False), Isle("b")), 4))
        self.assertEqual(book.undo(3), Chip(Isle("a", sleeps=False), Isle("b", sleeps=False)))

    def test_no_isles(self):
        book = Book(CHIP)
        for value in ANY + ["c", "shore"]:
            if value not in ("a", "b"):
                for work in (book.rest, book.rouse):
                    for names in ((value,), ("a", value, None)):
                        error = error_of(work, *names)
                        self.assertIsInstance(error, NoIsle)
                        self.assertIs(error.which, value)
        self.assertEqual((book.present, len(book)), (CHIP, 0))

    def test_history_of_more_than_fifty_changes(self):
        self.assertEqual(Book.MOST, 50)
        book = Book(numbered(0))
        for number in range(1, 61):
            book.present = numbered(number)
            self.assertEqual(len(book), min(number, 50))
        self.assertEqual(error_of(book.undo, 51).count, 51)
        self.assertEqual(book.undo(50), numbered(10))
        self.assertEqual((len(book), type(error_of(book.undo))), (0, NothingToUndo))
        self.assertEqual((book.redo(50), len(book), book.present), (numbered(60), 50, numbered(60)))
        self.assertEqual((book.undo(7), len(book)), (numbered(53), 43))
        book.present = numbered(70)
        self.assertEqual((len(book), type(error_of(book.redo))), (44, NothingToUndo))
        self.assertEqual(book.undo(44), numbered(10))

    def test_counts(self):
        book = Book(numbered(0))
        for number in range(1, 5):
            book.present = numbered(number)
        self.assertEqual((book.undo(count=2), book.undo(), book.redo(), book.redo(count=2)), (numbered(2), numbered(1), numbered(2), numbered(4)))
        book.undo(2)
        for value in ANY + [3, 5, 60]:
            if value in (1, 2) and not isinstance(value, bool):
                continue
            for work in (book.undo, book.redo):
                error = error_of(work, value)
                self.assertIsInstance(error, NothingToUndo)
                self.assertIs(error.count, value)
        self.assertEqual((book.present, len(book)), (numbered(2), 2))

    def test_by_chance_against_a_plain_telling(self):
        for seed in range(60):
            dice = random.Random(seed)
            book, past, future, now = Book(numbered(0)), [], [], 0
            for number in range(150):
                choice, count = dice.random(), dice.randint(1, 6)
                if choice < 0.6:
                    book.present = numbered(number % 90)
                    past, future, now = (past + [now])[-50:], [], number % 90
                elif choice < 0.8:
                    if count > len(past):
                        self.assertEqual(error_of(book.undo, count).count, count)
                        continue
                    rest = past + [now] + future
                    at = len(past) - count
                    past, now, future = rest[:at], rest[at], rest[at + 1:]
                    self.assertEqual(book.undo(count), numbered(now))
                else:
                    if count > len(future):
                        self.assertEqual(error_of(book.redo, count).count, count)
                        continue
                    rest = past + [now] + future
                    at = len(past) + count
                    past, now, future = rest[:at], rest[at], rest[at + 1:]
                    self.assertEqual(book.redo(count), numbered(now))
                self.assertEqual((book.present, len(book)), (numbered(now), len(past)))

    def test_trials(self):
        book = Book(CHIP)
        book.rest("a")
        book.undo()
        trial = book.trial()
        with trial as same:
            self.assertIs(same, book)
            book.rouse("b")
            inner = book.present
            with book.trial():
                book.undo()
                book.present = Chip(Isle("z"))
            with trial:
                book.rest()
                book.rest()
            self.assertEqual((book.present, len(book)), (inner, 1))
        self.assertEqual((book.present, len(book)), (CHIP, 0))
        with self.assertRaises(Failed):
            with book.trial():
                book.present = Chip(Isle("z"))
                raise Failed()
        # What could be done again ahead of the trials still can.
        self.assertEqual(book.redo(), Chip(Isle("a", sleeps=False), Isle("b", sleeps=False)))

    def test_on_trial(self):
        book = Book(CHIP)

        def work(given):
            self.assertIs(given, book)
            given.rest("a")
            return given.on_trial(lambda same: [same.rouse("b"), len(same)][1]), len(given)
        self.assertEqual((book.on_trial(work), book.present, len(book)), ((2, 1), CHIP, 0))

        def fail(given):
            given.rest("a")
            raise Failed()
        with self.assertRaises(Failed):
            book.on_trial(work=fail)
        self.assertEqual((book.present, len(book)), (CHIP, 0))

    def test_equal_books(self):
        book, other = Book(CHIP), Book(Chip(Isle("z")))
        self.assertFalse(book == other)
        other.present = Chip(Isle("b", sleeps=False), Isle("a"))
        self.assertTrue(book == other)
        for value in ANY + [CHIP]:
            self.assertFalse(book == value)


if __name__ == "__main__":
    unittest.main()
