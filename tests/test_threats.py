"""Threats: rests that the weaver wins by them within a number (points 2, 17, 18, 30)."""

import collections
import itertools
import random
import unittest

from papers import keeps_the_bounds, took, wins
from small import random_rest, small_rests

from mothloom.checking import good
from mothloom.threats import forced


def won_within(rest, deep):
    """Point 30, word by word."""
    if deep == 0:
        return any(len(strip) <= 1 for strip in rest)
    if won_within(rest, deep - 1):
        return True
    for strip in rest:
        if len(strip) == 2:
            for knot, bite in (strip, strip[::-1]):
                if won_within(took(took(rest, "weaver", knot), "moth", bite), deep - 1):
                    return True
    return False


def within_two(shift=0):
    """A rest that is won within 2 and not within 1."""
    rest = ((0, 1), (0, 2, 3), (2, 4))
    return tuple(tuple(hole + shift for hole in strip) for strip in rest)


def within_three():
    """A rest that is won within 3 and not within 2."""
    return ((0, 1), (0, 2, 3), (2, 4, 5), (4, 6))


class ThreatsTest(unittest.TestCase):
    def check_paper(self, paper, rest):
        self.assertTrue(keeps_the_bounds(paper))
        self.assertTrue(good(paper, rest, "weaver", "weaver"))

    def check(self, rest, deep, due):
        before = repr(rest)
        paper = forced(rest, deep)
        if due:
            self.check_paper(paper, rest)
        else:
            self.assertIsNone(paper)
        self.assertEqual(forced(rest, deep), paper)
        self.assertEqual(repr(rest), before)

    def check_least(self, rest, least):
        """Won by threats within that number and not within a lesser one; None where never."""
        for deep in range(4):
            self.check(rest, deep, least is not None and deep >= least)
        self.assertEqual(forced(rest), forced(rest, 2))

    def test_without_strips(self):
        self.check_least((), None)

    def test_an_empty_strip(self):
        for rest in (((),), ((), ()), ((), (0, 1), (0, 2)), ((), (5,)), ((), (0, 1, 2, 3))):
            self.check_least(rest, 0)

    def test_a_strip_of_one_hole(self):
        for rest in (((0,),), ((59,),), ((0, 1, 2), (7,)), ((0, 1), (0, 2), (3,)), ((1,), (1,), (2,))):
            self.check_least(rest, 0)

    def test_no_strip_of_two_holes(self):
        for rest in (((0, 1, 2),), ((0, 1, 2), (0, 3, 4), (0, 5, 6)), tuple((hole, 57, 58, 59) for hole in range(57))):
            self.check_least(rest, None)

    def test_one_threat(self):
        for rest in (((0, 1), (0, 2)), ((0, 2), (1, 2)), ((0, 1), (1, 2)), ((0, 1, 2), (3, 4), (4, 59)),
                     ((0, 1), (0, 1), (1, 5))):
            self.check_least(rest, 1)

    def test_strips_of_two_holes_that_lead_nowhere(self):
        for rest in (((0, 1),), ((0, 1), (2, 3)), ((0, 1), (0, 1)), ((0, 1), (0, 1, 2)), ((0, 1), (0, 1, 2), (2, 3)),
                     tuple((hole, hole + 30) for hole in range(30))):
            self.check_least(rest, None)

    def test_two_threats(self):
        self.check_least(within_two(), 2)
        self.check_least(within_two(55), 2)
        self.check_least(((0, 1), (0, 2, 3), (0, 4, 5), (2, 4)), 2)
        self.assertIsNone(forced(within_two(), 1))
        self.check_paper(forced(within_two()), within_two())
        self.check_paper(forced(within_two(), deep=2), within_two())

    def test_three_threats(self):
        self.assertFalse(won_within(within_three(), 2))
        self.assertTrue(won_within(within_three(), 3))
        self.check_least(within_three(), 3)
        self.assertIsNone(forced(within_three()))

    def test_the_bite_takes_the_next_threat_away(self):
        self.check_least(((0, 1), (0, 2, 3), (1, 2, 4)), None)
        self.check_least(((0, 1), (0, 1, 2), (0, 1, 3)), None)

    def test_won_but_not_by_threats(self):
        triples = tuple(itertools.combinations(range(6), 3))
        self.assertEqual(wins(triples, "weaver"), "weaver")
        self.check_least(triples, None)

    def test_small_rests(self):
        for rest in small_rests(3, 3):
            for deep in range(4):
                self.check(rest, deep, won_within(rest, deep))

    def test_larger_rests(self):
        chance = random.Random(30)
        seen = collections.Counter()
        for _ in range(3000):
            count = chance.randint(3, 12)
            kinds = chance.choice(((2, 3), (2, 3, 3, 4), (1, 2, 3), (2, 3, 4, 5), (3, 3, 2, 3)))
            sizes = [min(count, chance.choice(kinds)) for _ in range(chance.randint(0, 9))]
            rest = tuple(sorted(tuple(sorted(chance.sample(range(count), size))) for size in sizes))
            told = [won_within(rest, deep) for deep in range(4)]
            for deep, due in enumerate(told):
                self.check(rest, deep, due)
            seen[tuple(told)] += 1
            if told[3] and count <= 6:
                self.assertEqual(wins(rest, "weaver"), "weaver")
        self.assertEqual(len(seen), 5)
        self.assertGreater(min(seen.values()), 10)

    def test_sixty_strips(self):
        chance = random.Random(31)
        for size in (2, 3, 4):
            for _ in range(8):
                strips = [tuple(sorted(chance.sample(range(60), 2))) for _ in range(chance.randint(1, 12))]
                while len(strips) < 60:
                    strips.append(tuple(sorted(chance.sample(range(60), size))))
                rest = tuple(sorted(strips))
                for deep in range(3):
                    self.check(rest, deep, won_within(rest, deep))
                paper = forced(rest, 3)
                if paper is not None:
                    self.check_paper(paper, rest)
        self.check_least(tuple(sorted(within_two(50) + random_rest(chance, 50, 57, 6))), 2)

    def test_many_like_strips(self):
        self.check_least(((0, 1),) * 60, None)
        self.check_least(((0, 1),) * 58 + ((0, 2, 3), (2, 4)), 2)


if __name__ == "__main__":
    unittest.main()
