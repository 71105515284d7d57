"""Weights: of a rest, the pull of a hole, the heaviest hole, most shared; who weighs (points 13 to 16)."""

import itertools
import random
import unittest
from fractions import Fraction

from small import random_rest, small_rests

from mothloom.rests import bitten, holes_of, knotted
from mothloom.weights import UNIT, heaviest, most_shared, moth_weighs, pull, weaver_weighs, weight

ALL = tuple(range(60))
HALF, QUARTER, EIGHTH = UNIT // 2, UNIT // 4, UNIT // 8


def halves(rest):
    """What a rest weighs, in units, as a fraction."""
    return sum((Fraction(1, 2 ** len(strip)) for strip in rest), Fraction(0))


def pull_by_words(rest, hole):
    return halves([strip for strip in rest if hole in strip])


def shared_by_words(rest):
    counts = [0]
    for two in itertools.combinations(sorted(set(itertools.chain(*rest))), 2):
        counts.append(len([strip for strip in rest if set(two) <= set(strip)]))
    return max(counts)


def moth_by_words(rest, turn):
    if turn == "moth":
        return halves(rest) < 1
    return halves(rest) + max([pull_by_words(rest, hole) for hole in range(60)]) < 1


def weaver_by_words(rest, turn):
    if turn == "weaver":
        return 4 * halves(rest) > shared_by_words(rest) * (len(set(itertools.chain(*rest))) // 2)
    if () in rest:
        return True
    bites = [tuple(strip for strip in rest if hole not in strip) for hole in sorted(set(itertools.chain(*rest)))]
    return all(weaver_by_words(each, "weaver") for each in [rest] + bites)


class WeightTest(unittest.TestCase):
    def test_the_unit(self):
        self.assertEqual(UNIT, 2 ** 60)
        self.assertIs(type(UNIT), int)

    def test_an_empty_strip_and_a_strip_of_sixty_holes(self):
        self.assertEqual(weight(((),)), UNIT)
        self.assertEqual(weight((ALL,)), 1)
        self.assertEqual(weight((ALL[:59],)), 2)

    def test_each_length(self):
        for size in range(61):
            self.assertEqual(weight((ALL[:size],)), 2 ** (60 - size))

    def test_strips_together_and_like_strips(self):
        self.assertEqual(weight(((), (0,), (0, 1))), UNIT + HALF + QUARTER)
        self.assertEqual(weight(((0, 1), (0, 1), (0, 1))), 3 * QUARTER)
        self.assertEqual(weight((ALL,) * 60), 60)
        self.assertEqual(weight(((),) * 60), 60 * UNIT)

    def test_a_rest_without_strips(self):
        self.assertEqual(weight(()), 0)
        self.assertIs(type(weight(())), int)


class PullTest(unittest.TestCase):
    def test_the_strips_that_have_it(self):
        rest = ((0, 1), (0, 2, 3), (1,))
        self.assertEqual(pull(rest, 0), QUARTER + EIGHTH)
        self.assertEqual(pull(rest, 1), QUARTER + HALF)
        self.assertEqual(pull(rest, 2), EIGHTH)

    def test_like_strips(self):
        self.assertEqual(pull(((5,), (5,), (5, 6)), 5), 2 * HALF + QUARTER)
        self.assertEqual(pull((ALL,) * 60, 59), 60)

    def test_a_hole_that_no_strip_has(self):
        for rest in ((), ((),), ((0, 1), (1, 2))):
            self.assertEqual(pull(rest, 7), 0)
            self.assertIs(type(pull(rest, 7)), int)

    def test_each_small_rest(self):
        for rest in small_rests():
            for hole in range(4):
                self.assertEqual(pull(rest, hole), UNIT * pull_by_words(rest, hole))
                behind = knotted(rest, hole)
                self.assertEqual(weight(behind), weight(rest) + pull(rest, hole))
                self.assertEqual(weight(bitten(rest, hole)), weight(rest) - pull(rest, hole))


class HeaviestTest(unittest.TestCase):
    def test_the_greatest_pull(self):
        self.assertEqual(heaviest(((0, 1), (0, 2, 3), (1,))), 1)
        self.assertEqual(heaviest(((0, 1, 2), (0, 3, 4), (5,))), 5)
        self.assertEqual(heaviest(((0, 9), (1, 9), (2, 9))), 9)

    def test_a_heavy_strip_beats_many_light_ones(self):
        self.assertEqual(heaviest(((0, 1, 2, 3),) * 3 + ((7, 8),)), 7)
        self.assertEqual(heaviest(((0, 1, 2, 3),) * 5 + ((7, 8),)), 0)

    def test_the_least_of_several(self):
        self.assertEqual(heaviest(((0, 1), (0, 2), (1, 2))), 0)
        self.assertEqual(heaviest(((0, 5, 6), (3, 4))), 3)
        self.assertEqual(heaviest(((0, 1, 2, 3), (8, 9), (10, 11))), 8)
        self.assertEqual(heaviest(((0, 1, 2, 3),) * 4 + ((7, 8),)), 0)
        self.assertEqual(heaviest((ALL,) * 60), 0)
        self.assertEqual(heaviest(((40,), (8, 33), (8, 33))[::-1]), 8)

    def test_without_holes(self):
        self.assertIsNone(heaviest(()))
        self.assertIsNone(heaviest(((), ())))

    def test_the_only_hole(self):
        self.assertEqual(heaviest(((), (59,))), 59)
        self.assertEqual(heaviest(((0,),)), 0)

    def test_each_small_rest(self):
        for rest in small_rests(4, 3):
            holes = sorted(set(itertools.chain(*rest)))
            top = max([pull_by_words(rest, hole) for hole in holes], default=None)
            due = [hole for hole in holes if pull_by_words(rest, hole) == top][:1]
            self.assertEqual(heaviest(rest), due[0] if due else None)


class MostSharedTest(unittest.TestCase):
    def test_where_no_strip_has_two_holes(self):
        for rest in ((), ((),), ((0,), (0,), (1,)), ((), (59,))):
            self.assertEqual(most_shared(rest), 0)

    def test_like_strips(self):
        self.assertEqual(most_shared(((0, 1),)), 1)
        self.assertEqual(most_shared(((0, 1), (0, 1), (0, 1))), 3)
        self.assertEqual(most_shared((ALL,) * 60), 60)

    def test_two_holes_that_several_strips_have(self):
        self.assertEqual(most_shared(((0, 1), (0, 2), (1, 2))), 1)
        self.assertEqual(most_shared(((0, 1, 5), (0, 2, 5), (0, 5), (1, 2))), 3)
        self.assertEqual(most_shared(((0, 1, 2), (0, 3, 4), (0, 5, 6))), 1)
        self.assertEqual(most_shared(((0, 1, 59), (1, 2, 59), (3, 4))), 2)
        self.assertEqual(most_shared(((0, 3, 7, 9), (1, 3, 8, 9), (2, 3, 9))), 3)

    def test_one_hole_in_common_is_not_enough(self):
        self.assertEqual(most_shared(((0, 1), (0,), (0,), (0, 2))), 1)

    def test_each_small_rest(self):
        for rest in small_rests(4, 3):
            self.assertEqual(most_shared(rest), shared_by_words(rest))


class MothWeighsTest(unittest.TestCase):
    def test_the_moth_to_move(self):
        below = ((0, 1), (2, 3), (4, 5), (6, 7, 8))
        at = below + ((9, 10, 11),)
        above = at + ((12,) + ALL[13:],)
        self.assertEqual(weight(at), UNIT)
        self.assertIs(moth_weighs(below, "moth"), True)
        self.assertIs(moth_weighs(at, "moth"), False)
        self.assertIs(moth_weighs(above, "moth"), False)

    def test_the_moth_to_move_just_at_the_bound(self):
        ladder = tuple(sorted(ALL[:size] for size in range(1, 61)))
        self.assertEqual(weight(ladder), UNIT - 1)
        self.assertIs(moth_weighs(ladder, "moth"), True)
        full = tuple(sorted([ALL[:size] for size in range(1, 60)] + [ALL[:59]]))
        self.assertEqual(weight(full), UNIT)
        self.assertIs(moth_weighs(full, "moth"), False)
        self.assertIs(moth_weighs(((0,), (1,)), "moth"), False)
        self.assertIs(moth_weighs(((0,),), "moth"), True)

    def test_the_weaver_to_move(self):
        below = ((0, 1), (2, 3), (4, 5, 6))
        self.assertEqual(weight(below) + pull(below, 0), 7 * EIGHTH)
        at = ((0, 1), (2, 3), (4, 5))
        self.assertEqual(weight(at) + pull(at, 0), UNIT)
        above = at + ((6,) + ALL[7:],)
        for rest, due in ((below, True), (at, False), (above, False)):
            self.assertIs(moth_weighs(rest, "weaver"), due)
            self.assertIs(moth_weighs(rest), due)
        self.assertIs(moth_weighs(at, "moth"), True)

    def test_the_weaver_to_move_just_at_the_bound(self):
        # Hole 0 is in each strip: weight and pull are the same, and twice that is to be below UNIT.
        ladder = tuple(sorted(ALL[:size] for size in range(2, 61)))
        self.assertEqual(weight(ladder) + pull(ladder, 0), UNIT - 2)
        self.assertIs(moth_weighs(ladder), True)
        full = tuple(sorted([ALL[:size] for size in range(2, 60)] + [ALL[:59]]))
        self.assertEqual(weight(full) + pull(full, 0), UNIT)
        self.assertIs(moth_weighs(full), False)

    def test_the_turn_left_out_is_the_weavers(self):
        self.assertIs(moth_weighs(((0,),)), False)
        self.assertIs(moth_weighs(((0,),), "weaver"), False)
        self.assertIs(moth_weighs(((0,),), "moth"), True)
        self.assertIs(moth_weighs(((0,),), turn="moth"), True)

    def test_bare_whole_and_without_holes(self):
        for turn in ("weaver", "moth"):
            self.assertIs(moth_weighs((), turn), True)
            self.assertIs(moth_weighs(((),), turn), False)
            self.assertIs(moth_weighs(((), ()), turn), False)
            self.assertIs(moth_weighs(((), (0, 1)), turn), False)

    def test_each_small_rest(self):
        for rest in small_rests(4, 3):
            for turn in ("weaver", "moth"):
                self.assertIs(moth_weighs(rest, turn), moth_by_words(rest, turn))

    def test_larger_rests(self):
        chance = random.Random(15)
        seen = set()
        for _ in range(300):
            rest = random_rest(chance, 6, 10, 2)
            for turn in ("weaver", "moth"):
                due = moth_by_words(rest, turn)
                self.assertIs(moth_weighs(rest, turn), due)
                seen.add((turn, due))
        self.assertEqual(len(seen), 4)

    def test_a_biting_moth_goes_on_so(self):
        for rest in small_rests(4, 3):
            if moth_weighs(rest, "moth") and holes_of(rest):
                self.assertTrue(moth_weighs(bitten(rest, heaviest(rest)), "weaver"))
            if moth_weighs(rest, "weaver"):
                self.assertTrue(all(moth_weighs(knotted(rest, hole), "moth") for hole in range(5)))


class WeaverWeighsTest(unittest.TestCase):
    def test_the_weaver_to_move(self):
        for rest, due in (
            (((0, 1),), False),                                     # 4 * 1/4 against 1 * 1
            (((0, 1), (2,)), True),                                 # 4 * 3/4 against 1 * 1
            (((0, 1), (0, 2)), True),                               # 4 * 1/2 against 1 * 1
            (((0, 1), (2, 3)), False),                              # 4 * 1/2 against 1 * 2
            (((0, 1), (2, 3), (4, 5)), False),                      # 4 * 3/4 against 1 * 3
            (((0, 1), (0, 2), (2, 3)), True),                       # 4 * 3/4 against 1 * 2
            (((0, 1), (0, 1)), False),                              # 4 * 1/2 against 2 * 1
            (((0, 1), (0, 1), (2,)), True),                         # 4 * 1 against 2 * 1
            (((0, 1), (0, 1), (2, 3)), False),                      # 4 * 3/4 against 2 * 2
            (((0, 1), (0, 2), (3,), (4,)), True),                   # 4 * 3/2 against 1 * 2
            (((0, 1, 2),), False),                                  # 4 * 1/8 against 1 * 1
            (((0, 1, 2), (0, 3)), False),                           # 4 * 3/8 against 1 * 2
        ):
            with self.subTest(rest=rest):
                self.assertIs(weaver_weighs(rest, "weaver"), due)
                self.assertIs(weaver_weighs(rest), due)
                self.assertIs(weaver_weighs(rest, turn="weaver"), due)

    def check_about_the_bound(self, rest, bound, gap):
        self.assertEqual(most_shared(rest) * (len(holes_of(rest)) // 2), bound)
        self.assertEqual(4 * weight(rest), UNIT * bound + gap)
        self.assertIs(weaver_weighs(rest), gap > 0)

    def test_the_weaver_to_move_just_about_the_bound(self):
        twos = tuple((hole, hole + 1) for hole in range(0, 60, 2))
        self.check_about_the_bound(twos, 30, 0)
        evens = tuple(range(0, 60, 2))
        self.check_about_the_bound(tuple(sorted(twos + (evens,))), 30, 4 * 2 ** 30)
        lighter = ((0, 2, 58), (4, 6, 8, 59), (10, 12, 14, 16, 18))
        self.check_about_the_bound(tuple(sorted(twos[:29] + lighter)), 30, 4 * 2 ** 55 - 4 * 2 ** 56)
        singles = ((0,),) * 15
        self.check_about_the_bound(tuple(sorted(singles + (ALL,))), 30, 4)
        self.check_about_the_bound(tuple(sorted(singles[:14] + (ALL,))), 30, 4 - 2 * UNIT)

    def test_an_odd_hole_more_does_not_count(self):
        self.check_about_the_bound(((0, 1), (1, 2), (2,)), 1, 3 * UNIT)
        self.check_about_the_bound(((0, 1), (2, 3), (2, 4)), 2, UNIT)

    def test_without_two_holes_in_a_strip_any_weight_is_enough(self):
        self.assertIs(weaver_weighs(((7,),)), True)
        self.assertIs(weaver_weighs(((),)), True)
        self.assertIs(weaver_weighs(tuple((hole,) for hole in range(60))), True)

    def test_a_bare_rest(self):
        for turn in ("weaver", "moth"):
            self.assertIs(weaver_weighs((), turn), False)

    def test_whole_rests(self):
        self.assertIs(weaver_weighs(((),), "moth"), True)
        self.assertIs(weaver_weighs(((), ()), "moth"), True)
        heavy_shared = ((),) + ((0, 1, 2, 3),) * 8
        # 4 * (1 + 8/16) against 8 * 2: not weighed by its weight, but whole.
        self.assertIs(weaver_weighs(heavy_shared, "weaver"), False)
        self.assertIs(weaver_weighs(heavy_shared, "moth"), True)

    def test_the_moth_to_move(self):
        self.assertIs(weaver_weighs(((0,),), "moth"), False)
        self.assertIs(weaver_weighs(((0,), (1,)), "moth"), True)
        self.assertIs(weaver_weighs(((0,), (0,)), "moth"), False)
        self.assertIs(weaver_weighs(((0, 1), (0, 2), (1, 2)), "moth"), False)
        self.assertIs(weaver_weighs(((0, 1), (0, 2), (1, 2), (3,)), "moth"), True)

    def test_one_bite_alone_breaks_it(self):
        for rest, breaking in (
            (((0, 1), (0, 2), (0, 3)), 0),
            (((0, 3), (1, 3), (2, 3)), 3),
            (((0, 5), (1, 6), (2, 4), (3,), (3, 4), (3, 5), (5, 6), (5, 6)), 3),
        ):
            with self.subTest(rest=rest):
                broken = [hole for hole in holes_of(rest) if not weaver_weighs(bitten(rest, hole))]
                self.assertEqual(broken, [breaking])
                self.assertIs(weaver_weighs(rest), True)
                self.assertIs(weaver_weighs(rest, "moth"), False)

    def test_with_the_moth_to_move_the_rest_itself_counts_too(self):
        rest = ((0,), (0, 1), (0, 1, 2), (0, 1, 2), (3,))
        self.assertTrue(all(weaver_weighs(bitten(rest, hole)) for hole in holes_of(rest)))
        self.assertIs(weaver_weighs(rest), False)
        self.assertIs(weaver_weighs(rest, "moth"), False)

    def test_each_small_rest(self):
        for rest in small_rests(3, 4):
            for turn in ("weaver", "moth"):
                self.assertIs(weaver_weighs(rest, turn), weaver_by_words(rest, turn))

    def test_larger_rests(self):
        chance = random.Random(16)
        seen = set()
        for _ in range(200):
            strips = [tuple(sorted(chance.sample(range(7), chance.choice((1, 2, 2, 3))))) for _ in range(8)]
            rest = tuple(sorted(strips))
            for turn in ("weaver", "moth"):
                due = weaver_by_words(rest, turn)
                self.assertIs(weaver_weighs(rest, turn), due)
                seen.add((turn, due))
        self.assertEqual(len(seen), 4)

    def test_a_knotting_weaver_goes_on_so(self):
        for rest in small_rests(4, 3):
            if weaver_weighs(rest) and holes_of(rest) and () not in rest:
                self.assertTrue(weaver_weighs(knotted(rest, heaviest(rest)), "moth"), rest)


if __name__ == "__main__":
    unittest.main()
