"""[19], duskisles/rows.py: orders of the words of an isle."""

import itertools
import random
import unittest

import oraclepapers
from duskisles.isles import Isle
from duskisles.rows import (WORD_PAIRS, broken, candidates_of, first_order, follows, keeps, keeps_all, many_orders,
                            orders_with, swapped)

ISLES = [Isle("a"), Isle("a", sleep=("dark",), wake=("lit",)),
         Isle("a", sleep=("save", "dark", "still"), wake=("go", "open", "lit")),
         Isle("a", sleep=("shut", "dark"), wake=("back", "reset", "go", "lit")),
         Isle("a", sleep=("still", "dark"), wake=("open", "back"))]


class RowsTest(unittest.TestCase):

    def some_pairs(self):
        """Yields isles with some of their candidates."""
        dice = random.Random(0)
        for isle in ISLES:
            pairs = candidates_of(isle)
            yield isle, pairs
            for _ in range(30):
                yield isle, tuple(pair for pair in pairs if dice.random() < 0.5)

    def test_one_word_ahead_of_another(self):
        for isle in ISLES:
            for order in oraclepapers.orders(isle):
                for pair in candidates_of(isle):
                    self.assertIs(keeps(order, pair), oraclepapers.keeps(order, pair))
                    self.assertIs(keeps(order, broken(pair)), not keeps(order, pair))
                kept = [pair for pair in candidates_of(isle) if oraclepapers.keeps(order, pair)]
                self.assertTrue(keeps_all(order, ()) and keeps_all(order, kept))
                self.assertIs(keeps_all(order, candidates_of(isle)), len(kept) == len(candidates_of(isle)))

    def test_orders_that_keep_pairs(self):
        for isle, pairs in self.some_pairs():
            told = [order for order in oraclepapers.orders(isle)
                    if all(oraclepapers.keeps(order, pair) for pair in pairs)]
            self.assertEqual(orders_with(isle, pairs), told)
            self.assertEqual(first_order(isle, pairs), told[0])
            self.assertEqual(many_orders(isle, pairs), len(told))

    def test_a_pair_that_is_broken(self):
        for isle, pairs in self.some_pairs():
            for pair in pairs:
                if not follows(pair, pairs):
                    others = [other for other in pairs if other != pair]
                    told = [order for order in orders_with(isle, others) if not keeps_all(order, [pair])]
                    self.assertEqual(first_order(isle, [*others, broken(pair)]), told[0])

    def test_words_change_places(self):
        for isle in ISLES:
            left = list(candidates_of(isle))
            dice = random.Random(len(left))
            begin = first_order(isle, left)
            # Pairs are taken away as they are found not to be needed: only those that do not follow from the others.
            while left:
                for pair in left:
                    if not follows(pair, left):
                        order = swapped(begin, pair, left)
                        self.assertIn(order, oraclepapers.orders(isle))
                        self.assertEqual([other for other in left if not oraclepapers.keeps(order, other)], [pair])
                left.remove(dice.choice([pair for pair in left if not follows(pair, left)]))

    def test_no_pair_follows_over_two_words_alone(self):
        for pairs in itertools.combinations(WORD_PAIRS, 4):
            for pair in pairs:
                ways = {pair[0]}
                others = [other for other in pairs if other != pair]
                for _ in others:
                    ways |= {second for first, second in others if first in ways}
                self.assertIs(follows(pair, pairs), pair[1] in ways)


if __name__ == "__main__":
    unittest.main()
