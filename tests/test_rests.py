"""Rests: made, knotted, bitten; their holes; whole and bare (points 2, 4, 5, 6)."""

import copy
import itertools
import unittest

from small import small_rests

from mothloom.errors import NoRest
from mothloom.rests import bitten, holes_of, is_bare, is_whole, knotted, rest_made

NO_HOLES = [
    -1, 60, 61, -60, 10 ** 30, True, False, None, "", "0", "5", (), (5,), [], [5], {}, {5: True}, {5}, 5.0, 0.5,
    float("nan"), 5j, b"5", object(), int,
]


class FormOfRests(unittest.TestCase):
    def check_rest(self, rest):
        self.assertIs(type(rest), tuple)
        for strip in rest:
            self.assertIs(type(strip), tuple)
            self.assertEqual(list(strip), sorted(set(strip)))
        self.assertEqual(list(rest), sorted(rest))


class RestMadeTest(FormOfRests):
    def test_the_orders_that_the_document_names(self):
        self.assertEqual(rest_made([[1], [0, 5], [0], []]), ((), (0,), (0, 5), (1,)))
        for rows in itertools.permutations([[], [0], [5, 0], [1]]):
            self.assertEqual(rest_made(list(rows)), ((), (0,), (0, 5), (1,)))

    def test_lists_and_tuples_in_any_mixture(self):
        told = ((0, 5), (1, 2))
        for outer in (list, tuple):
            for inner in (list, tuple):
                for last in (list, tuple):
                    self.assertEqual(rest_made(outer([inner([2, 1]), last([5, 0])])), told)

    def test_order_is_by_number_and_not_by_writing(self):
        self.assertEqual(rest_made([[10, 9], [2]]), ((2,), (9, 10)))
        self.assertEqual(rest_made([[10], [9]]), ((9,), (10,)))

    def test_holes_far_apart_rise(self):
        for row in itertools.permutations([0, 8, 33, 40]):
            self.assertEqual(rest_made([row]), ((0, 8, 33, 40),))
        for low, high in itertools.combinations(range(60), 2):
            self.assertEqual(rest_made([[high, low]]), ((low, high),))

    def test_a_shorter_strip_does_not_come_first_for_its_length(self):
        self.assertEqual(rest_made([[1], [0, 2, 3]]), ((0, 2, 3), (1,)))

    def test_a_hole_twice_in_a_row_counts_once(self):
        self.assertEqual(rest_made([[3, 1, 3, 3, 1]]), ((1, 3),))
        self.assertEqual(rest_made([(0,) * 100]), ((0,),))

    def test_a_hole_in_two_rows_stays_in_both(self):
        self.assertEqual(rest_made([[3, 1], [3]]), ((1, 3), (3,)))

    def test_like_rows_stand_as_often_as_they_come(self):
        self.assertEqual(rest_made([[1, 2], [0], [2, 1], (1, 2, 2)]), ((0,), (1, 2), (1, 2), (1, 2)))
        self.assertEqual(rest_made([[], [], ()]), ((), (), ()))

    def test_empty_rows_and_no_rows(self):
        self.assertEqual(rest_made([[]]), ((),))
        self.assertEqual(rest_made([]), ())
        self.assertEqual(rest_made(()), ())
        self.assertIs(type(rest_made([])), tuple)

    def test_sixty_rows_are_a_rest_and_more_are_not(self):
        rows = [[59 - hole] for hole in range(60)]
        self.assertEqual(rest_made(rows), tuple((hole,) for hole in range(60)))
        self.assertEqual(rest_made([[]] * 60), ((),) * 60)
        for many in ([[]] * 61, rows + [[0]], ([0],) * 61, [[]] * 200):
            with self.assertRaises(NoRest):
                rest_made(many)

    def test_like_rows_count_each_towards_the_bound(self):
        self.assertEqual(len(rest_made([[7]] * 60)), 60)
        with self.assertRaises(NoRest):
            rest_made([[7]] * 61)

    def test_first_and_last_hole(self):
        self.assertEqual(rest_made([[59, 0]]), ((0, 59),))
        self.assertEqual(rest_made([list(range(59, -1, -1))]), (tuple(range(60)),))

    def test_what_is_no_hole_is_refused_at_any_place(self):
        for wrong in NO_HOLES:
            for place in range(3):
                for at in range(4):
                    rows = [[0, 1, 59], [2, 3, 4], [5, 0, 1]]
                    rows[place].insert(at, wrong)
                    for asked in (rows, tuple(tuple(row) for row in rows)):
                        with self.subTest(wrong=wrong, place=place, at=at):
                            with self.assertRaises(NoRest):
                                rest_made(asked)

    def test_what_is_no_hole_is_refused_alone_and_beside_its_like(self):
        for wrong in NO_HOLES:
            for rows in ([[wrong]], [[], [wrong]], [[wrong], []], [[1, wrong]], [[wrong, wrong]], [[0, 1, 1, wrong]]):
                with self.subTest(rows=rows):
                    with self.assertRaises(NoRest):
                        rest_made(rows)

    def test_a_truth_beside_the_hole_it_equals_is_refused(self):
        for row in ([1, True], [True, 1], [0, False], [False, 0]):
            with self.assertRaises(NoRest):
                rest_made([row])

    def test_rows_handed_in_stay_as_they_were(self):
        for rows in ([[5, 0, 5], (1,), []], [[1, 0], [60]], [[2, 1], [0, None]], [[3, 2]] * 61):
            before = copy.deepcopy(rows)
            members = list(rows)
            try:
                rest_made(rows)
            except NoRest:
                pass
            self.assertEqual(rows, before)
            for row, member in zip(rows, members):
                self.assertIs(row, member)

    def test_rows_handed_in_are_not_kept(self):
        rows = [[5, 0], [1]]
        rest = rest_made(rows)
        rows[0].append(7)
        rows[1].clear()
        rows.append([9])
        self.assertEqual(rest, ((0, 5), (1,)))

    def test_what_is_asked_behind_a_refusal_is_told(self):
        rows = [[4, 2], [0, 60]]
        with self.assertRaises(NoRest):
            rest_made(rows)
        rows[1][1] = 59
        self.assertEqual(rest_made(rows), ((0, 59), (2, 4)))
        with self.assertRaises(NoRest):
            rest_made([[1]] * 61)
        self.assertEqual(rest_made([[1]]), ((1,),))
        self.assertEqual(rest_made([[4, 2], [0]]), ((0,), (2, 4)))

    def test_a_rest_made_again_is_the_same(self):
        for rest in small_rests():
            self.assertEqual(rest_made(rest), rest)
            again = rest_made([list(reversed(strip)) for strip in reversed(rest)])
            self.assertEqual(again, rest)
            self.check_rest(again)


class KnottedTest(FormOfRests):
    def test_the_hole_goes_out_of_each_strip(self):
        self.assertEqual(knotted(((0, 1, 2), (1, 3), (2, 3)), 1), ((0, 2), (2, 3), (3,)))

    def test_the_strips_are_put_in_order_anew(self):
        self.assertEqual(knotted(((0, 7), (1, 2)), 0), ((1, 2), (7,)))
        self.assertEqual(knotted(((0, 5), (0, 6), (3,)), 0), ((3,), (5,), (6,)))
        self.assertEqual(knotted(((0, 1), (1,)), 1), ((), (0,)))

    def test_as_many_strips_as_before_also_where_some_become_alike(self):
        self.assertEqual(knotted(((0, 1), (1,)), 0), ((1,), (1,)))
        self.assertEqual(knotted(((0, 1), (0, 1), (0, 2)), 0), ((1,), (1,), (2,)))

    def test_strips_that_a_knot_empties_stay(self):
        self.assertEqual(knotted(((4,),), 4), ((),))
        self.assertEqual(knotted(((0, 1), (4,), (4,)), 4), ((), (), (0, 1)))
        self.assertEqual(knotted(((), (4,)), 4), ((), ()))

    def test_a_hole_that_no_strip_has_changes_nothing(self):
        for rest in ((), ((),), ((0, 1), (1, 59)), ((2,), (2,))):
            for hole in (3, 17, 58):
                self.assertEqual(knotted(rest, hole), rest)

    def test_a_rest_without_strips(self):
        self.assertEqual(knotted((), 0), ())
        self.assertIs(type(knotted((), 0)), tuple)

    def test_a_full_rest(self):
        rest = (tuple(range(60)),) * 60
        self.assertEqual(knotted(rest, 59), (tuple(range(59)),) * 60)
        self.assertEqual(knotted(rest, 0), (tuple(range(1, 60)),) * 60)

    def test_each_small_rest(self):
        for rest in small_rests():
            for hole in range(4):
                told = knotted(rest, hole)
                self.check_rest(told)
                self.assertEqual(told, rest_made([[other for other in strip if other != hole] for strip in rest]))


class BittenTest(FormOfRests):
    def test_each_strip_with_the_hole_is_left_out(self):
        self.assertEqual(bitten(((0, 1, 2), (1, 3), (2, 3)), 1), ((2, 3),))
        self.assertEqual(bitten(((0, 1, 2), (1, 3), (2, 3)), 3), ((0, 1, 2),))

    def test_like_strips_go_together_and_stay_together(self):
        rest = ((0, 1), (0, 1), (2,), (2,))
        self.assertEqual(bitten(rest, 1), ((2,), (2,)))
        self.assertEqual(bitten(rest, 2), ((0, 1), (0, 1)))

    def test_the_last_strip_may_go(self):
        self.assertEqual(bitten(((4,),), 4), ())
        self.assertEqual(bitten(((0, 59), (59,)), 59), ())
        self.assertIs(type(bitten(((4,),), 4)), tuple)

    def test_empty_strips_are_never_bitten(self):
        self.assertEqual(bitten(((), (), (0,)), 0), ((), ()))

    def test_a_hole_that_no_strip_has_changes_nothing(self):
        for rest in ((), ((),), ((0, 1), (1, 59)), ((2,), (2,))):
            for hole in (3, 17, 58):
                self.assertEqual(bitten(rest, hole), rest)

    def test_each_small_rest(self):
        for rest in small_rests():
            for hole in range(4):
                told = bitten(rest, hole)
                self.check_rest(told)
                self.assertEqual(told, rest_made([strip for strip in rest if strip.count(hole) == 0]))


class HolesOfTest(unittest.TestCase):
    def test_rising_each_once_over_all_strips(self):
        self.assertEqual(holes_of(((0, 7, 9), (1, 7), (2,))), [0, 1, 2, 7, 9])
        self.assertEqual(holes_of(((10, 59), (9, 10))), [9, 10, 59])
        self.assertEqual(holes_of(((0, 40), (8, 33))), [0, 8, 33, 40])

    def test_no_holes(self):
        self.assertEqual(holes_of(()), [])
        self.assertEqual(holes_of(((), ())), [])

    def test_all_holes(self):
        self.assertEqual(holes_of((tuple(range(60)),)), list(range(60)))
        self.assertEqual(holes_of(tuple((hole,) for hole in range(60))), list(range(60)))

    def test_a_list_new_each_time(self):
        rest = ((0, 5), (1,))
        for asked in (rest, (), ((),)):
            told = holes_of(asked)
            self.assertIs(type(told), list)
            due = list(told)
            told.append(33)
            self.assertEqual(holes_of(asked), due)
            self.assertIsNot(holes_of(asked), told)
        self.assertEqual(rest, ((0, 5), (1,)))


class WholeAndBareTest(unittest.TestCase):
    def test_whole_and_bare(self):
        for rest, whole, bare in [
            ((), False, True),
            (((),), True, False),
            (((), ()), True, False),
            (((), (0, 1)), True, False),
            (((0,),), False, False),
            (((0, 1), (59,)), False, False),
            (((0,), (0,)), False, False),
        ]:
            with self.subTest(rest=rest):
                self.assertIs(is_whole(rest), whole)
                self.assertIs(is_bare(rest), bare)

    def test_behind_deeds(self):
        self.assertIs(is_whole(knotted(((0, 1), (1,)), 1)), True)
        self.assertIs(is_whole(knotted(((0, 1), (1,)), 0)), False)
        self.assertIs(is_bare(bitten(((0, 1), (1,)), 1)), True)
        self.assertIs(is_bare(bitten(((0, 1), (1,)), 0)), False)


if __name__ == "__main__":
    unittest.main()
