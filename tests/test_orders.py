"""Rests beside one another: the footing, below, thinned (points 2, 7, 8)."""

import unittest

from small import small_rests

from mothloom.orders import footing, is_below, thinned
from mothloom.rests import rest_made


def footing_by_words(rest, other):
    told = []
    for strip in rest:
        places = [place for place in range(len(other)) if frozenset(other[place]) <= frozenset(strip)]
        told.append(min(places) if places else None)
    return told


class FootingTest(unittest.TestCase):
    def test_the_least_of_several_places(self):
        self.assertEqual(footing(((0, 1, 2),), ((0, 3), (1, 2), (2,))), [1])
        self.assertEqual(footing(((0, 1, 2),), ((0, 1), (1, 2), (2,))), [0])
        self.assertEqual(footing(((1, 5),), ((0,), (1,), (1, 5), (5,))), [1])

    def test_one_for_each_strip_in_order(self):
        rest = ((0, 1, 5), (0, 5), (1,), (2,))
        self.assertEqual(footing(rest, ((0, 5), (1,))), [0, 0, 1, None])
        self.assertEqual(footing(((0, 1), (2, 3)), ((2,), (0,))), [1, 0])

    def test_none_where_there_is_none(self):
        self.assertEqual(footing(((0, 1), (2,)), ((0, 1, 2),)), [None, None])
        self.assertEqual(footing(((0,),), ((1,), (2,))), [None])
        self.assertEqual(footing(((0, 1),), ((1, 2),)), [None])

    def test_all_holes_of_the_other_strip_and_not_the_other_way_about(self):
        self.assertEqual(footing(((0, 1),), ((0,),)), [0])
        self.assertEqual(footing(((0,),), ((0, 1),)), [None])

    def test_like_strips(self):
        self.assertEqual(footing(((0, 1), (0, 1)), ((0, 1),)), [0, 0])
        self.assertEqual(footing(((0, 1),), ((0, 1), (0, 1))), [0])
        self.assertEqual(footing(((1,), (1,), (2,)), ((0,), (1,), (1,))), [1, 1, None])

    def test_empty_strips(self):
        self.assertEqual(footing(((), (0,), (59,)), ((), (0,))), [0, 0, 0])
        self.assertEqual(footing(((), (0,)), ((0,),)), [None, 0])
        self.assertEqual(footing(((),), ((),)), [0])

    def test_rests_without_strips(self):
        self.assertEqual(footing((), ((0,), (1,))), [])
        self.assertEqual(footing(((), (0,)), ()), [None, None])
        self.assertEqual(footing((), ()), [])

    def test_full_rests(self):
        singles = tuple((hole,) for hole in range(60))
        self.assertEqual(footing(singles, singles), list(range(60)))
        self.assertEqual(footing((tuple(range(60)),) * 60, singles), [0] * 60)
        self.assertEqual(footing(singles, (tuple(range(60)),) * 60), [None] * 60)

    def test_a_list_new_each_time(self):
        rest = ((0, 1), (2,))
        other = ((0,),)
        told = footing(rest, other)
        self.assertIs(type(told), list)
        told[0] = 7
        told.append(9)
        self.assertEqual(footing(rest, other), [0, None])
        empty = footing((), other)
        empty.append(1)
        self.assertEqual(footing((), other), [])
        self.assertEqual((rest, other), (((0, 1), (2,)), ((0,),)))


class BelowTest(unittest.TestCase):
    def test_each_strip_needs_a_place(self):
        self.assertIs(is_below(((0, 1), (2, 3)), ((0,), (3,))), True)
        self.assertIs(is_below(((0, 1), (2, 4)), ((0,), (3,))), False)
        self.assertIs(is_below(((1, 2), (2, 4)), ((0,), (2, 4))), False)

    def test_a_place_at_the_front_counts_as_a_place(self):
        self.assertIs(is_below(((0,),), ((0,),)), True)

    def test_not_each_strip_of_the_other_one_is_needed(self):
        self.assertIs(is_below(((0, 1),), ((0,), (2,), (3,))), True)

    def test_one_way_and_not_the_other(self):
        self.assertIs(is_below(((0, 1),), ((0,),)), True)
        self.assertIs(is_below(((0,),), ((0, 1),)), False)

    def test_like_and_empty_strips(self):
        self.assertIs(is_below(((0,), (0,)), ((0,),)), True)
        self.assertIs(is_below(((0,),), ((),)), True)
        self.assertIs(is_below(((),), ((),)), True)
        self.assertIs(is_below(((),), ((0,),)), False)

    def test_rests_without_strips(self):
        self.assertIs(is_below((), ()), True)
        self.assertIs(is_below((), ((0,),)), True)
        self.assertIs(is_below(((0,),), ()), False)
        self.assertIs(is_below(((),), ()), False)

    def test_each_two_small_rests(self):
        rests = list(small_rests(3, 2))
        for rest in rests:
            for other in rests:
                due = footing_by_words(rest, other)
                self.assertEqual(footing(rest, other), due)
                self.assertIs(is_below(rest, other), all(place is not None for place in due))


class ThinnedTest(unittest.TestCase):
    def test_a_strip_that_has_all_holes_of_another_one_goes(self):
        self.assertEqual(thinned(((0, 1, 5), (0, 5), (1,))), ((0, 5), (1,)))
        self.assertEqual(thinned(((0,), (0, 1))), ((0,),))
        self.assertEqual(thinned(((0, 1), (1,))), ((1,),))

    def test_also_where_the_other_one_goes_too(self):
        self.assertEqual(thinned(((0, 1, 2), (0, 2), (2,))), ((2,),))

    def test_strips_that_only_share_holes_stay(self):
        rest = ((0, 1), (0, 2), (1, 2))
        self.assertEqual(thinned(rest), rest)

    def test_of_like_strips_one_stays(self):
        self.assertEqual(thinned(((0, 1), (0, 1), (0, 1), (2,), (2,))), ((0, 1), (2,)))
        self.assertEqual(thinned(((7,),) * 60), ((7,),))

    def test_like_strips_go_all_where_another_one_is_within_them(self):
        self.assertEqual(thinned(((0, 1), (0, 1), (1,), (1,))), ((1,),))

    def test_an_empty_strip_is_within_each_other_one(self):
        self.assertEqual(thinned(((), (0,), (1, 2))), ((),))
        self.assertEqual(thinned(((), ())), ((),))
        self.assertEqual(thinned(((),)), ((),))

    def test_a_rest_without_strips(self):
        self.assertEqual(thinned(()), ())
        self.assertIs(type(thinned(())), tuple)

    def test_a_full_rest(self):
        rows = [[hole for hole in range(60) if hole != gap] for gap in range(60)]
        rest = rest_made(rows)
        self.assertEqual(thinned(rest), rest)
        self.assertEqual(thinned(rest_made(rows[:59] + [list(range(60))])), rest_made(rows[:59]))

    def test_each_small_rest(self):
        for rest in small_rests(3, 4):
            told = thinned(rest)
            due = []
            for strip in sorted(set(rest)):
                if not any(frozenset(other) < frozenset(strip) for other in rest):
                    due.append(strip)
            self.assertEqual(told, tuple(due))
            self.assertIs(type(told), tuple)
            self.assertEqual(rest_made(told), told)
            self.assertEqual(thinned(told), told)
            self.assertTrue(is_below(told, rest) and is_below(rest, told))


if __name__ == "__main__":
    unittest.main()
