"""Pairs that hold a rest, mates, own pairs or a crowd (points 2, 11, 12)."""

import itertools
import random
import unittest

from small import random_rest, small_rests

from mothloom.pairs import mate, own_pairs, pairs_hold


def has_own_pairs(rest, taken=()):
    """Whether there are own pairs, by a search through all choices."""
    if not rest:
        return True
    for two in itertools.combinations(rest[0], 2):
        if not set(two) & set(taken) and has_own_pairs(rest[1:], taken + two):
            return True
    return False


class PairsHoldTest(unittest.TestCase):
    def test_each_strip_has_both_holes_of_some_pair(self):
        self.assertIs(pairs_hold([(0, 1), (2, 3)], ((0, 1, 4), (2, 3))), True)
        self.assertIs(pairs_hold([(0, 1)], ((0, 1), (0, 1), (0, 1, 2))), True)
        self.assertIs(pairs_hold([(2, 3), (0, 1)], ((0, 1, 2),)), True)
        self.assertIs(pairs_hold([(0, 1), (2, 3)], ((0, 1), (2, 4))), False)

    def test_either_order_within_a_pair(self):
        self.assertIs(pairs_hold([(1, 0), (5, 2)], ((0, 1), (2, 5))), True)

    def test_a_pair_of_two_like_holes(self):
        self.assertIs(pairs_hold([(0, 0)], ((0, 1),)), False)
        self.assertIs(pairs_hold([(0, 0)], ()), False)
        self.assertIs(pairs_hold([(0, 1), (2, 2)], ((0, 1),)), False)

    def test_a_hole_in_two_pairs(self):
        self.assertIs(pairs_hold([(0, 1), (1, 2)], ((0, 1), (1, 2))), False)
        self.assertIs(pairs_hold([(0, 1), (2, 0)], ((0, 1),)), False)
        self.assertIs(pairs_hold([(0, 1), (0, 1)], ((0, 1),)), False)
        self.assertIs(pairs_hold([(0, 1), (1, 0)], ()), False)
        self.assertIs(pairs_hold([(5, 6), (0, 1), (6, 7)], ()), False)

    def test_a_strip_with_one_hole_of_a_pair(self):
        self.assertIs(pairs_hold([(0, 1)], ((0, 2),)), False)
        self.assertIs(pairs_hold([(0, 1)], ((1,),)), False)

    def test_a_strip_with_the_holes_of_two_pairs_one_each(self):
        self.assertIs(pairs_hold([(0, 1), (2, 3)], ((0, 2),)), False)
        self.assertIs(pairs_hold([(0, 1), (2, 3)], ((0, 3), (2, 3))), False)

    def test_an_empty_strip(self):
        self.assertIs(pairs_hold([(0, 1)], ((), (0, 1))), False)
        self.assertIs(pairs_hold([], ((),)), False)

    def test_no_pairs_and_no_strips(self):
        self.assertIs(pairs_hold([], ()), True)
        self.assertIs(pairs_hold((), ()), True)
        self.assertIs(pairs_hold([], ((0, 1),)), False)
        self.assertIs(pairs_hold([(0, 1), (58, 59)], ()), True)

    def test_lists_and_tuples_and_the_row_stays(self):
        pairs = [(3, 2), (0, 1)]
        self.assertIs(pairs_hold(pairs, ((0, 1), (2, 3))), True)
        self.assertIs(pairs_hold(tuple(pairs), ((0, 1), (2, 3))), True)
        self.assertEqual(pairs, [(3, 2), (0, 1)])

    def test_many_pairs(self):
        pairs = [(hole, 59 - hole) for hole in range(30)]
        rest = tuple((hole, 59 - hole) for hole in range(30))
        self.assertIs(pairs_hold(pairs, rest), True)
        self.assertIs(pairs_hold(pairs[:29], rest), False)
        self.assertIs(pairs_hold(pairs[1:], rest), False)

    def test_each_small_rest(self):
        twos = list(itertools.product(range(3), repeat=2))
        for rest in small_rests(3, 2):
            for pairs in itertools.chain([()], itertools.product(twos, repeat=1), itertools.product(twos, repeat=2)):
                flat = list(itertools.chain(*pairs))
                due = len(flat) == len(set(flat))
                for strip in rest:
                    due = due and any(set(pair) <= set(strip) for pair in pairs)
                self.assertIs(pairs_hold(pairs, rest), due)


class MateTest(unittest.TestCase):
    def test_either_hole_of_a_pair(self):
        for pairs in ([(0, 5), (7, 2)], ((0, 5), (7, 2))):
            self.assertEqual(mate(pairs, 0), 5)
            self.assertEqual(mate(pairs, 5), 0)
            self.assertEqual(mate(pairs, 7), 2)
            self.assertEqual(mate(pairs, 2), 7)

    def test_the_first_of_several_pairs(self):
        pairs = [(0, 1), (2, 0), (0, 3), (4, 2)]
        self.assertEqual(mate(pairs, 0), 1)
        self.assertEqual(mate(pairs, 2), 0)
        self.assertEqual(mate(pairs, 3), 0)
        self.assertEqual(mate([(2, 0), (0, 1)], 0), 2)

    def test_a_pair_of_two_like_holes(self):
        self.assertEqual(mate([(4, 4)], 4), 4)
        self.assertEqual(mate([(4, 4), (4, 5)], 4), 4)
        self.assertEqual(mate([(4, 5), (4, 4)], 4), 5)

    def test_none(self):
        self.assertIsNone(mate([], 0))
        self.assertIsNone(mate((), 59))
        self.assertIsNone(mate([(0, 1), (2, 3)], 4))


class OwnPairsTest(unittest.TestCase):
    def check_told(self, rest):
        told = own_pairs(rest)
        self.assertIs(type(told), tuple)
        word, members = told
        self.assertIs(type(members), list)
        if word == "pairs":
            self.check_pairs(rest, members)
        else:
            self.assertEqual(word, "crowd")
            self.check_crowd(rest, members)
        return word

    def check_pairs(self, rest, pairs):
        self.assertEqual(len(pairs), len(rest))
        for strip, pair in zip(rest, pairs):
            self.assertIs(type(pair), tuple)
            self.assertEqual(len(pair), 2)
            self.assertLess(pair[0], pair[1])
            self.assertLessEqual(set(pair), set(strip))
        holes = list(itertools.chain(*pairs))
        self.assertEqual(len(holes), len(set(holes)))
        self.assertTrue(pairs_hold(pairs, rest))

    def check_crowd(self, rest, places):
        self.assertEqual(places, sorted(set(places)))
        self.assertTrue(all(type(place) is int and 0 <= place < len(rest) for place in places))
        holes = set(itertools.chain(*[rest[place] for place in places]))
        self.assertLess(len(holes), 2 * len(places))

    def test_pairs_in_the_order_of_the_strips(self):
        self.assertEqual(own_pairs(((0, 1), (2, 3))), ("pairs", [(0, 1), (2, 3)]))
        self.assertEqual(own_pairs(((0, 59), (1, 58), (2, 57))), ("pairs", [(0, 59), (1, 58), (2, 57)]))

    def test_a_rest_without_strips(self):
        self.assertEqual(own_pairs(()), ("pairs", []))

    def test_an_empty_strip_and_a_strip_of_one_hole(self):
        self.assertEqual(own_pairs(((),)), ("crowd", [0]))
        self.assertEqual(own_pairs(((4,),)), ("crowd", [0]))
        self.assertEqual(self.check_told(((), (0, 1), (2, 3))), "crowd")
        self.assertEqual(self.check_told(((0, 1), (2, 3), (4,))), "crowd")

    def test_crowds(self):
        self.assertEqual(own_pairs(((0, 1), (0, 1))), ("crowd", [0, 1]))
        self.assertEqual(own_pairs(((0, 1), (0, 1, 2))), ("crowd", [0, 1]))
        self.assertEqual(own_pairs(((0, 1, 2), (0, 3, 4), (2, 3, 4))), ("crowd", [0, 1, 2]))
        self.assertEqual(own_pairs(((0, 1, 2), (0, 3, 4), (2, 3, 4), (5, 6))), ("crowd", [0, 1, 2]))
        self.assertEqual(self.check_told(((0, 1), (0, 2), (1, 2))), "crowd")
        self.assertEqual(self.check_told(((0, 1, 2, 3), (4, 5, 6), (4, 6), (7, 8))), "crowd")
        self.assertEqual(self.check_told(((0, 1),) * 60), "crowd")
        self.assertEqual(self.check_told((tuple(range(60)),) * 31), "crowd")

    def test_the_places_of_a_crowd_rise(self):
        for low, high in itertools.combinations(range(20), 2):
            strips = [(place, place + 30) for place in range(20)]
            strips[low] = (low, high)
            self.assertEqual(own_pairs(tuple(strips)), ("crowd", [low, high]))

    def test_a_first_choice_is_changed_for_a_later_strip(self):
        self.assertEqual(own_pairs(((0, 1, 2, 3), (0, 1))), ("pairs", [(2, 3), (0, 1)]))
        self.assertEqual(self.check_told(((0, 1, 2, 4), (0, 1, 3), (0, 3))), "crowd")
        rest = ((0, 1, 2, 3), (0, 1, 4, 5), (0, 1))
        self.assertEqual(own_pairs(rest), ("pairs", [(2, 3), (4, 5), (0, 1)]))
        chain = tuple(tuple(range(2 * step, 2 * step + 4)) for step in range(8)) + ((0, 1, 16, 17),)
        self.assertEqual(self.check_told(tuple(sorted(chain))), "pairs")

    def test_a_row_of_changes(self):
        strips = [tuple(range(2 * step, 2 * step + 4)) for step in range(29)]
        self.assertEqual(self.check_told(tuple(strips)), "pairs")
        self.assertEqual(self.check_told(tuple(sorted(strips + [(0, 1)]))), "pairs")
        self.assertEqual(self.check_told(tuple(sorted(strips + [(58, 59)]))), "pairs")
        self.assertEqual(self.check_told(tuple(sorted(strips + [(0, 1), (58, 59)]))), "crowd")

    def test_thirty_strips_of_two_holes_each(self):
        rest = tuple((hole, 59 - hole) for hole in range(30))
        self.assertEqual(own_pairs(rest), ("pairs", list(rest)))
        rest = tuple((hole, hole + 1) for hole in range(0, 60, 2))
        self.assertEqual(own_pairs(rest), ("pairs", list(rest)))
        self.assertEqual(self.check_told((tuple(range(60)),) * 30), "pairs")

    def test_the_list_is_new_each_time(self):
        for rest in ((), ((0, 1), (2, 3)), ((0,), (1, 2))):
            told = own_pairs(rest)
            due = (told[0], list(told[1]))
            told[1].append((8, 9))
            self.assertEqual(own_pairs(rest), due)

    def test_pairs_are_told_wherever_there_are_some(self):
        for rest in small_rests(4, 3):
            self.assertEqual(self.check_told(rest), "pairs" if has_own_pairs(rest) else "crowd")

    def test_pairs_of_larger_rests(self):
        chance = random.Random(12)
        words = {"pairs": 0, "crowd": 0}
        for _ in range(600):
            rest = random_rest(chance, chance.randint(4, 9), 4, 2)
            word = self.check_told(rest)
            self.assertEqual(word, "pairs" if has_own_pairs(rest) else "crowd")
            words[word] += 1
        self.assertTrue(words["pairs"] > 50 and words["crowd"] > 50)

    def test_full_rests(self):
        chance = random.Random(60)
        for _ in range(100):
            rest = tuple(sorted(tuple(sorted(chance.sample(range(60), 5))) for _ in range(chance.randint(20, 60))))
            self.check_told(rest)


if __name__ == "__main__":
    unittest.main()
