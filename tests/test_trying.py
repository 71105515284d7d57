"""Trying all plays: who wins, and a paper that says so (points 2, 17, 18, 29)."""

import collections
import itertools
import random
import unittest

from papers import HANDS, OTHER, keeps_the_bounds, wins
from small import random_rest, small_rests

from mothloom.checking import good
from mothloom.errors import LoomError, TooLarge
from mothloom.trying import tried, winner_by_trying

TRIPLES = tuple(itertools.combinations(range(6), 3))


class TryingTest(unittest.TestCase):
    def check(self, rest, turn, due=None):
        """The winner is the one due, or by trying here, and the paper is good."""
        due = due or wins(rest, turn)
        before = repr(rest)
        self.assertEqual(winner_by_trying(rest, turn), due)
        told = tried(rest, turn)
        self.assertIs(type(told), tuple)
        hand, paper = told
        self.assertEqual(hand, due)
        self.assertTrue(keeps_the_bounds(paper))
        self.assertTrue(good(paper, rest, turn, hand))
        self.assertFalse(good(paper, rest, turn, OTHER[hand]))
        self.assertEqual(tried(rest, turn), told)
        self.assertEqual(repr(rest), before)

    def test_whole_and_bare(self):
        for turn in HANDS:
            self.check((), turn, "moth")
            self.check(((),), turn, "weaver")
            self.check(((), ()), turn, "weaver")
            self.check(((), (0, 1), (2,)), turn, "weaver")
            self.check(((), (0, 1, 2, 3, 4, 5)), turn, "weaver")

    def test_who_moves_first_matters(self):
        for rest in (((0,),), ((0, 1), (0, 2)), ((57, 58), (58, 59)), ((0, 1), (1, 2), (2, 3), (4, 5))):
            self.check(rest, "weaver", "weaver")
            self.check(rest, "moth", "moth")

    def test_the_turn_does_not_matter(self):
        for turn in HANDS:
            self.check(((0,), (1,)), turn, "weaver")
            self.check(((0, 1), (2, 3)), turn, "moth")
            self.check(((0, 1), (0, 2), (3, 4), (3, 5)), turn, "weaver")

    def test_six_holes(self):
        self.check(((0, 1, 2), (3, 4, 5)), "weaver", "moth")
        self.check(((0, 11, 22, 33, 44, 55),), "weaver", "moth")
        self.check(TRIPLES, "weaver", "weaver")
        self.check(TRIPLES, "moth", "weaver")
        self.check(((0,), (1,), (2,), (3,), (4,), (5,)), "moth", "weaver")

    def test_sixty_strips_on_six_holes(self):
        for turn in HANDS:
            self.check(tuple(sorted(TRIPLES * 3)), turn)
            self.check(((0, 1, 2, 3, 4, 5),) * 60, turn, "moth")
            self.check(((0, 1),) * 30 + ((2, 3, 4, 5),) * 30, turn, "moth")
            self.check(((),) * 60, turn, "weaver")

    def test_seven_holes_are_refused(self):
        for rest in (
            ((0, 1, 2, 3, 4, 5, 6),), ((), (0, 1, 2, 3, 4, 5, 6)), ((0,), (1,), (2,), (3,), (4,), (5,), (6,)),
            ((0, 1, 2), (3, 4, 59), (5,)), ((), (0, 1, 2, 3, 4, 5), (59,)), tuple((hole,) for hole in range(60)),
            ((0,), (0, 1, 2, 3, 4, 5, 6)),
        ):
            for ask, turn in itertools.product((winner_by_trying, tried), HANDS):
                with self.assertRaises(TooLarge) as taken:
                    ask(rest, turn)
                self.assertIs(type(taken.exception), TooLarge)
                self.assertIsInstance(taken.exception, LoomError)

    def test_small_rests(self):
        for rest, turn in itertools.product(small_rests(3, 3), HANDS):
            self.check(rest, turn)

    def test_larger_rests(self):
        chance = random.Random(29)
        seen = collections.Counter()
        for _ in range(250):
            rest = random_rest(chance, chance.randint(4, 6), chance.choice((4, 6, 10, 60)), chance.choice((1, 2, 3)))
            for turn in HANDS:
                self.check(rest, turn)
                seen[turn, wins(rest, turn)] += 1
        self.assertEqual(len(seen), 4)
        self.assertGreater(min(seen.values()), 20)

    def test_holes_that_are_far_apart(self):
        chance = random.Random(30)
        for _ in range(60):
            names = sorted(chance.sample(range(60), 6))
            rest = random_rest(chance, 6, 8, 2)
            rest = tuple(tuple(names[hole] for hole in strip) for strip in rest)
            for turn in HANDS:
                self.check(rest, turn)


if __name__ == "__main__":
    unittest.main()
