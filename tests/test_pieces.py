"""Rests joined, rests apart, the pieces of a rest (points 2, 4, 9, 10)."""

import itertools
import random
import unittest

from small import is_a_rest, random_rest, small_rests

from mothloom.errors import NoRest
from mothloom.pieces import are_apart, joined, pieces

EMPTY = ((),)


def pieces_by_words(rest):
    """The pieces by their words: from each strip walk to all that hang together with it."""
    groups = []
    left = [place for place in range(len(rest)) if rest[place]]
    while left:
        reached = {left[0]}
        grown = True
        while grown:
            grown = False
            for place in left:
                near = any(set(rest[place]) & set(rest[other]) for other in reached)
                if place not in reached and near:
                    reached.add(place)
                    grown = True
        groups.append(tuple(rest[place] for place in sorted(reached)))
        left = [place for place in left if place not in reached]
    groups = sorted(groups, key=lambda group: min(min(strip) for strip in group))
    return [EMPTY for strip in rest if not strip] + groups


class JoinedTest(unittest.TestCase):
    def test_no_rests_one_and_several(self):
        self.assertEqual(joined([]), ())
        self.assertEqual(joined(()), ())
        self.assertEqual(joined([((0, 1), (2,))]), ((0, 1), (2,)))
        self.assertEqual(joined([((5,),), ((0, 1), (2,)), ((), (3,))]), ((), (0, 1), (2,), (3,), (5,)))

    def test_rests_without_strips(self):
        self.assertEqual(joined([()]), ())
        self.assertEqual(joined([(), ((1,),), ()]), ((1,),))

    def test_lists_and_tuples_of_rests(self):
        rests = [((1, 2),), ((0, 3), (1,))]
        for row in (rests, tuple(rests)):
            told = joined(row)
            self.assertEqual(told, ((0, 3), (1,), (1, 2)))
            self.assertTrue(is_a_rest(told))

    def test_like_strips_as_often_as_they_come(self):
        rest = ((0, 1), (0, 1), (2,))
        self.assertEqual(joined([rest, rest]), ((0, 1),) * 4 + ((2,),) * 2)
        self.assertEqual(joined([EMPTY, EMPTY, EMPTY]), ((), (), ()))

    def test_strips_with_holes_in_common_stay_as_they_are(self):
        self.assertEqual(joined([((0, 1),), ((0,),)]), ((0,), (0, 1)))

    def test_sixty_strips_are_a_rest_and_more_are_refused(self):
        singles = tuple((hole,) for hole in range(60))
        self.assertEqual(joined([singles]), singles)
        self.assertEqual(joined([singles[30:], singles[:30]]), singles)
        self.assertEqual(joined([(strip,) for strip in reversed(singles)]), singles)
        self.assertEqual(joined([EMPTY] * 60), ((),) * 60)
        for many in ([singles, ((0,),)], [((7,),)] * 61, [singles, singles], (EMPTY,) * 61, [singles[:31], singles[:30]]):
            with self.assertRaises(NoRest):
                joined(many)
        self.assertEqual(joined([singles, ()]), singles)

    def test_the_row_handed_in_stays(self):
        rests = [((3,),), ((0, 1), (2,)), ()]
        before = list(rests)
        told = joined(rests)
        self.assertEqual(rests, before)
        rests.append(((9,),))
        self.assertEqual(told, ((0, 1), (2,), (3,)))
        many = [((7,),)] * 61
        with self.assertRaises(NoRest):
            joined(many)
        self.assertEqual(many, [((7,),)] * 61)

    def test_each_two_small_rests(self):
        for one, two in itertools.product(small_rests(3, 2), repeat=2):
            told = joined([one, two])
            self.assertTrue(is_a_rest(told))
            self.assertEqual(told, tuple(sorted(one + two)))


class ApartTest(unittest.TestCase):
    def test_no_rests_and_one(self):
        self.assertIs(are_apart([]), True)
        self.assertIs(are_apart(()), True)
        self.assertIs(are_apart([()]), True)
        self.assertIs(are_apart([((0, 1), (1, 2), (1, 2))]), True)

    def test_a_hole_in_two_of_them(self):
        self.assertIs(are_apart([((0, 1),), ((2, 3), (4,))]), True)
        self.assertIs(are_apart([((0, 1),), ((2, 3), (1, 4))]), False)
        self.assertIs(are_apart([((0,),), ((1,),), ((2,),), ((59,), (59,))]), True)
        self.assertIs(are_apart([((0,),), ((1,),), ((2,),), ((0, 59),)]), False)
        self.assertIs(are_apart([((5,),), ((1,),), ((1, 2),)]), False)

    def test_a_rest_twice_by_place(self):
        rest = ((0, 1),)
        self.assertIs(are_apart([rest, rest]), False)
        self.assertIs(are_apart([rest, ((7,),), rest]), False)
        self.assertIs(are_apart([EMPTY, EMPTY]), True)
        self.assertIs(are_apart([(), ()]), True)
        self.assertIs(are_apart([((), ()), rest, ((), ())]), True)

    def test_lists_and_tuples(self):
        self.assertIs(are_apart((((0,),), ((0,),))), False)
        self.assertIs(are_apart((((0,),), ((1,),))), True)

    def test_the_row_handed_in_stays(self):
        rests = [((0, 1),), ((1,),)]
        are_apart(rests)
        self.assertEqual(rests, [((0, 1),), ((1,),)])

    def test_more_than_sixty_strips_together_are_not_refused(self):
        singles = tuple((hole,) for hole in range(60))
        self.assertIs(are_apart([singles, ((), ())]), True)
        self.assertIs(are_apart([singles, ((59,),)]), False)

    def test_each_two_small_rests(self):
        for one, two in itertools.product(small_rests(3, 2), repeat=2):
            due = not set(itertools.chain(*one)) & set(itertools.chain(*two))
            self.assertIs(are_apart([one, two]), due)


class PiecesTest(unittest.TestCase):
    def test_strips_without_a_hole_in_common_are_pieces(self):
        self.assertEqual(pieces(((0, 1), (2, 3))), [((0, 1),), ((2, 3),)])
        self.assertEqual(pieces(((0, 1), (1, 2))), [((0, 1), (1, 2))])

    def test_strips_that_hang_together_by_a_row_of_others(self):
        row = ((0, 1), (1, 2), (2, 3), (3, 4))
        self.assertEqual(pieces(row), [row])
        late = ((0, 1), (2, 3), (4, 5), (1, 3, 4))
        self.assertEqual(pieces(tuple(sorted(late))), [tuple(sorted(late))])
        long_row = tuple((hole, hole + 1) for hole in range(59))
        self.assertEqual(pieces(long_row), [long_row])
        self.assertEqual(pieces(long_row[:20] + long_row[21:]), [long_row[:20], long_row[21:]])

    def test_a_late_strip_brings_early_ones_together(self):
        self.assertEqual(
            pieces(((0, 9), (1, 5), (2, 8), (3, 4), (5, 9))),
            [((0, 9), (1, 5), (5, 9)), ((2, 8),), ((3, 4),)],
        )

    def test_like_strips_stay_together(self):
        self.assertEqual(pieces(((0, 1), (0, 1), (2,), (2,), (2,))), [((0, 1), (0, 1)), ((2,), (2,), (2,))])

    def test_each_empty_strip_is_a_piece_of_its_own_and_first(self):
        self.assertEqual(pieces(((), (), (0, 1), (1,))), [EMPTY, EMPTY, ((0, 1), (1,))])
        self.assertEqual(pieces(((),)), [EMPTY])
        self.assertEqual(pieces(((),) * 60), [EMPTY] * 60)

    def test_the_order_of_the_least_holes(self):
        self.assertEqual(
            pieces(((0, 50), (1,), (2, 59), (3, 50), (10,))),
            [((0, 50), (3, 50)), ((1,),), ((2, 59),), ((10,),)],
        )
        self.assertEqual(pieces(((9, 10), (9, 11), (8,))[::-1]), [((8,),), ((9, 11), (9, 10))[::-1]])

    def test_a_rest_without_strips(self):
        self.assertEqual(pieces(()), [])

    def test_the_list_is_new_each_time(self):
        for rest in ((), ((),), ((0, 1), (2,))):
            told = pieces(rest)
            self.assertIs(type(told), list)
            due = list(told)
            told.append(None)
            told[0] = None
            self.assertEqual(pieces(rest), due)

    def test_a_full_rest(self):
        singles = tuple((hole,) for hole in range(60))
        self.assertEqual(pieces(singles), [(strip,) for strip in singles])
        full = (tuple(range(60)),) * 60
        self.assertEqual(pieces(full), [full])

    def check_pieces(self, rest):
        told = pieces(rest)
        self.assertEqual(told, pieces_by_words(rest))
        self.assertTrue(all(is_a_rest(piece) for piece in told))
        self.assertEqual(joined(told), rest)
        self.assertTrue(are_apart(told))

    def test_each_small_rest(self):
        for rest in small_rests(4, 3):
            self.check_pieces(rest)

    def test_larger_rests(self):
        chance = random.Random(9)
        for _ in range(400):
            strips = []
            for strip in random_rest(chance, 4, 12):
                strips.append(tuple(sorted({chance.choice((3, 7, 11)) * hole for hole in strip})))
            self.check_pieces(tuple(sorted(strips)))
        for _ in range(200):
            strips = [tuple(sorted(chance.sample(range(60), chance.randint(0, 3)))) for _ in range(25)]
            self.check_pieces(tuple(sorted(strips)))


if __name__ == "__main__":
    unittest.main()
