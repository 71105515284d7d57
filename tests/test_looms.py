"""Looms: a count and ribbons, or a refusal (points 2, 25)."""

import copy
import itertools
import unittest

from small import is_a_rest

from mothloom.errors import NoLoom, NoRibbon
from mothloom.looms import loom_made

NO_COUNTS = [-1, 61, 62, -60, 10 ** 30, True, False, None, "", "5", 5.0, 0.5, (), (5,), [], [5], {}, object(), int]
NO_HOLES = NO_COUNTS + [60, float("nan"), {5}, b"5"]


class LoomMadeTest(unittest.TestCase):
    def test_a_tuple_of_the_count_and_the_ribbons(self):
        told = loom_made(6, [[5, 0], [1, 2, 3], (4,)])
        self.assertEqual(told, (6, ((0, 5), (1, 2, 3), (4,))))
        self.assertIs(type(told), tuple)
        self.assertTrue(is_a_rest(told[1]))

    def test_counts(self):
        self.assertEqual(loom_made(0, []), (0, ()))
        self.assertEqual(loom_made(60, [[59, 0]]), (60, ((0, 59),)))
        for count in range(61):
            self.assertEqual(loom_made(count, ()), (count, ()))
            self.assertEqual(loom_made(count, [list(range(count))] if count else []), (
                count, (tuple(range(count)),) if count else ()))

    def test_what_is_no_count_is_refused(self):
        for count in NO_COUNTS:
            with self.subTest(count=count):
                with self.assertRaises(NoLoom):
                    loom_made(count, [])
                with self.assertRaises(NoLoom):
                    loom_made(count, [[0]])

    def test_the_count_is_refused_also_where_a_ribbon_is_wrong(self):
        for count in NO_COUNTS:
            for ribbons in ([[]], [[0, 0]], [[None]], [[61]], [[0]] * 61, [[True], [0]]):
                with self.subTest(count=count, ribbons=ribbons):
                    with self.assertRaises(NoLoom):
                        loom_made(count, ribbons)

    def test_sixty_ribbons_and_more(self):
        rows = [[59 - hole] for hole in range(60)]
        self.assertEqual(loom_made(60, rows), (60, tuple((hole,) for hole in range(60))))
        self.assertEqual(loom_made(1, [[0]] * 60), (1, ((0,),) * 60))
        for many in (rows + [[0]], [[0]] * 61, ((0,),) * 61, [[0]] * 200):
            with self.assertRaises(NoRibbon):
                loom_made(60, many)

    def test_an_empty_ribbon_is_refused(self):
        for ribbons in ([[]], [()], [[0], []], [[], [0]], ([0], (), [1])):
            with self.assertRaises(NoRibbon):
                loom_made(5, ribbons)
        with self.assertRaises(NoRibbon):
            loom_made(0, [[]])

    def test_a_hole_beyond_the_count_is_refused(self):
        for count in (0, 1, 2, 30, 59, 60):
            for hole in (count, count + 1, 60, -1):
                for ribbons in ([[hole]], [[0], [hole]], [list(range(count)) + [hole]], [[hole] + list(range(count))]):
                    with self.subTest(count=count, ribbons=ribbons):
                        with self.assertRaises(NoRibbon):
                            loom_made(count, ribbons)

    def test_what_is_no_hole_is_refused_at_any_place(self):
        for wrong in NO_HOLES:
            for place, at in itertools.product(range(2), range(3)):
                rows = [[0, 59], [2, 3]]
                rows[place].insert(at, wrong)
                for asked in (rows, tuple(tuple(row) for row in rows)):
                    with self.subTest(wrong=wrong, place=place, at=at):
                        with self.assertRaises(NoRibbon):
                            loom_made(60, asked)
            with self.assertRaises(NoRibbon):
                loom_made(60, [[wrong]])

    def test_a_truth_is_refused_though_it_equals_a_hole(self):
        for row in ([True], [False], [1, True], [False, 0], [2, True], [False, 2]):
            with self.assertRaises(NoRibbon):
                loom_made(5, [row])

    def test_a_hole_twice_is_refused(self):
        for row in ([0, 0], [3, 1, 3], (2, 2, 2), [0, 1, 2, 3, 0]):
            with self.assertRaises(NoRibbon):
                loom_made(5, [[4], row])

    def test_a_hole_in_two_ribbons_is_well(self):
        self.assertEqual(loom_made(5, [[3, 1], [3], [1, 0]]), (5, ((0, 1), (1, 3), (3,))))

    def test_like_ribbons_as_often_as_they_come(self):
        self.assertEqual(loom_made(3, [[1, 2], [0], (2, 1), [1, 2]]), (3, ((0,), (1, 2), (1, 2), (1, 2))))

    def test_rows_in_any_order(self):
        for rows in itertools.permutations([[4, 0], [0], [2, 3, 1]]):
            self.assertEqual(loom_made(5, list(rows)), (5, ((0,), (0, 4), (1, 2, 3))))
        for low, high in itertools.combinations(range(60), 2):
            self.assertEqual(loom_made(60, [(high, low)]), (60, ((low, high),)))

    def test_what_is_handed_in_stays_and_is_not_kept(self):
        for rows in ([[4, 0], (3,), [2, 1]], [[1, 0], [60]], [[2, 1], []], [[3, 2]] * 61, [[1, 1]]):
            before = copy.deepcopy(rows)
            members = list(rows)
            try:
                loom_made(5, rows)
            except NoRibbon:
                pass
            self.assertEqual(rows, before)
            for row, member in zip(rows, members):
                self.assertIs(row, member)
        rows = [[4, 0], [1]]
        loom = loom_made(5, rows)
        rows[0].append(3)
        rows.append([2])
        self.assertEqual(loom, (5, ((0, 4), (1,))))


if __name__ == "__main__":
    unittest.main()
