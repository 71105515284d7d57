"""Playing by papers: the first move, the answer, the next stand, the knots needed (points 2, 20 to 24)."""

import collections
import unittest

from papers import OTHER, below, holes, took, won_papers

from mothloom.checking import good
from mothloom.following import answer, first, knots_needed

BARE = ("bare",)
WHOLE = ("whole",)
WEIGHT = ("weight",)
BY_TWO = ("pairs", ((0, 1),))
TWO = ((0, 1),)
SINGLES = ((0,), (1,))
WEAVER_CASES = ("cases", ((0, 1, WHOLE), (1, 0, WHOLE)))
KNOT = ("knot", 0, WHOLE)
EITHER = ("either", ((0,),), KNOT, ((1,),), ("knot", 1, WHOLE))


def most_knots(paper, rest):
    """Point 24, row by row."""
    word = paper[0]
    if word == "whole":
        return 0
    if word == "weight":
        return len(holes(rest))
    if word == "knot":
        return 1 + most_knots(paper[2], took(rest, "weaver", paper[1]))
    if word == "fewer":
        return most_knots(paper[2], paper[1])
    if word == "either":
        return max(most_knots(paper[2], paper[1]), most_knots(paper[4], paper[3]))
    counts = []
    for hole, reply, within in paper[1]:
        counts.append(most_knots(within, took(took(rest, "moth", hole), "weaver", reply)))
    return 1 + max(counts)


class FollowingTest(unittest.TestCase):
    def check_first(self, paper, rest, hand, due):
        """The paper is good here, and this is its first move."""
        self.assertTrue(good(paper, rest, hand, hand))
        told = first(paper, rest, hand)
        self.assertIs(type(told), tuple)
        self.assertEqual(told, due)

    def check_answer(self, paper, rest, hand, hole, due):
        """The paper is good here, and this is its answer."""
        self.assertTrue(good(paper, rest, OTHER[hand], hand))
        told = answer(paper, rest, hand, hole)
        self.assertIs(type(told), tuple)
        self.assertEqual(told, due)


class FirstTest(FollowingTest):
    def test_bite(self):
        rest = ((0, 1), (2,), (2, 3))
        self.check_first(("bite", 2, BY_TWO), rest, "moth", (2, TWO, BY_TWO))
        self.check_first(("bite", None, BY_TWO), TWO, "moth", (None, TWO, BY_TWO))
        self.check_first(("bite", 59, BY_TWO), TWO, "moth", (59, TWO, BY_TWO))
        self.check_first(("bite", None, BARE), (), "moth", (None, (), BARE))
        self.check_first(("bite", 0, BARE), (), "moth", (0, (), BARE))

    def test_knot(self):
        self.check_first(KNOT, ((0,), (0, 1)), "weaver", (0, ((), (1,)), WHOLE))
        self.check_first(("knot", None, WEAVER_CASES), SINGLES, "weaver", (None, SINGLES, WEAVER_CASES))
        self.check_first(("knot", 7, WEAVER_CASES), SINGLES, "weaver", (7, SINGLES, WEAVER_CASES))
        self.check_first(("knot", None, WHOLE), ((),), "weaver", (None, ((),), WHOLE))

    def test_weight_of_the_moth(self):
        self.check_first(WEIGHT, ((0, 1, 2), (2, 3)), "moth", (2, (), WEIGHT))
        self.check_first(WEIGHT, ((0, 1, 2), (3, 4)), "moth", (3, ((0, 1, 2),), WEIGHT))
        self.check_first(WEIGHT, (), "moth", (None, (), WEIGHT))

    def test_weight_of_the_weaver(self):
        self.check_first(WEIGHT, ((0, 1), (1, 2)), "weaver", (1, ((0,), (2,)), WEIGHT))
        self.check_first(WEIGHT, ((0,), (1,)), "weaver", (0, ((), (1,)), WEIGHT))
        self.check_first(WEIGHT, ((), ()), "weaver", (None, ((), ()), WEIGHT))

    def test_fewer(self):
        rest = ((0,), (1, 2), (3,))
        self.check_first(("fewer", ((3,),), ("knot", 3, WHOLE)), rest, "weaver", (3, ((),), WHOLE))
        self.check_first(("fewer", ((0, 1), (0, 2)), WEIGHT), ((0,),), "weaver", (0, ((1,), (2,)), WEIGHT))
        within = ("fewer", ((0,), (1, 2)), ("fewer", ((0, 5),) + ((0, 6),), WEIGHT))
        self.check_first(within, rest, "weaver", (0, ((5,), (6,)), WEIGHT))
        self.check_first(("fewer", ((),), WHOLE), ((), (4,)), "weaver", (None, ((),), WHOLE))

    def test_bare_and_whole(self):
        self.check_first(BARE, (), "moth", (None, (), BARE))
        self.check_first(WHOLE, ((),), "weaver", (None, ((),), WHOLE))
        self.check_first(WHOLE, ((), (0, 1)), "weaver", (None, ((), (0, 1)), WHOLE))


class MothAnswersTest(FollowingTest):
    def check(self, paper, rest, hole, due):
        self.check_answer(paper, rest, "moth", hole, due)

    def test_bare(self):
        for hole in (0, 33, 59):
            self.check(BARE, (), hole, (None, (), BARE))

    def test_weight(self):
        rest = ((0, 1, 2), (3, 4))
        self.check(WEIGHT, rest, 4, (3, ((0, 1, 2),), WEIGHT))
        self.check(WEIGHT, rest, 0, (1, ((3, 4),), WEIGHT))
        self.check(WEIGHT, ((0, 1, 2, 3), (4, 5, 6)), 1, (0, ((4, 5, 6),), WEIGHT))
        self.check(WEIGHT, rest, 9, (3, ((0, 1, 2),), WEIGHT))
        self.check(WEIGHT, (), 0, (None, (), WEIGHT))

    def test_pairs(self):
        paper = ("pairs", ((0, 1), (5, 2)))
        rest = ((0, 1, 3), (2, 5))
        self.check(paper, rest, 0, (1, ((2, 5),), paper))
        self.check(paper, rest, 1, (0, ((2, 5),), paper))
        self.check(paper, rest, 5, (2, ((0, 1, 3),), paper))
        self.check(paper, rest, 2, (5, ((0, 1, 3),), paper))

    def test_pairs_without_a_mate(self):
        paper = ("pairs", ((0, 1), (5, 2)))
        rest = ((0, 1, 3), (2, 5))
        self.check(paper, rest, 3, (None, ((0, 1), (2, 5)), paper))
        self.check(paper, rest, 44, (None, rest, paper))
        self.check(("pairs", ()), (), 44, (None, (), ("pairs", ())))

    def test_a_mate_that_the_rest_has_not(self):
        paper = ("pairs", ((0, 1), (2, 3)))
        self.check(paper, ((0, 1, 2),), 2, (3, ((0, 1),), paper))
        self.check(paper, ((0, 1, 2),), 3, (2, (), paper))

    def test_cases(self):
        paper = ("cases", ((0, 1, BARE), (1, 2, BARE), (2, None, BY_TWO)))
        rest = ((0, 1, 2),)
        self.check(paper, rest, 0, (1, (), BARE))
        self.check(paper, rest, 1, (2, (), BARE))
        self.check(paper, rest, 2, (None, ((0, 1),), BY_TWO))

    def test_cases_where_no_row_has_the_hole(self):
        paper = ("cases", ((0, 1, BARE), (1, 2, BARE), (2, None, BY_TWO)))
        for hole in (3, 59):
            self.check(paper, ((0, 1, 2),), hole, (None, ((0, 1, 2),), paper))
        self.check(("cases", ()), (), 0, (None, (), ("cases", ())))

    def test_cases_with_a_reply_that_does_nothing(self):
        paper = ("cases", tuple((hole, 7, WEIGHT) for hole in range(3)))
        self.check(paper, ((0, 1, 2),), 1, (7, ((0, 2),), WEIGHT))
        paper = ("cases", tuple((hole, hole, WEIGHT) for hole in range(3)))
        self.check(paper, ((0, 1, 2),), 1, (1, ((0, 2),), WEIGHT))

    def test_parts(self):
        rest = ((0, 1), (2, 3, 4), (5, 6))
        cases = ("cases", ((2, 3, BARE), (3, None, ("pairs", ((2, 4),))), (4, 2, BARE)))
        last = ("pairs", ((5, 6),))
        rows = ((((5, 6),), last), (((2, 3, 4),), cases), (TWO, BY_TWO))
        paper = ("parts", rows)
        self.check(paper, rest, 0, (1, ((2, 3, 4), (5, 6)), ("parts", (rows[0], rows[1], ((), BY_TWO)))))
        self.check(paper, rest, 6, (5, ((0, 1), (2, 3, 4)), ("parts", (((), last), rows[1], rows[2]))))
        self.check(paper, rest, 2, (3, ((0, 1), (5, 6)), ("parts", (rows[0], ((), BARE), rows[2]))))
        self.check(paper, rest, 3, (
            None, ((0, 1), (2, 4), (5, 6)), ("parts", (rows[0], (((2, 4),), ("pairs", ((2, 4),))), rows[2]))))

    def test_parts_and_a_hole_that_no_part_has(self):
        rest = ((0, 1, 2), (0, 1, 3))
        paper = ("parts", ((TWO, BY_TWO),))
        for hole in (2, 3, 4, 59):
            self.check(paper, rest, hole, (None, TWO, paper))
        self.check(paper, rest, 1, (0, (), ("parts", (((), BY_TWO),))))
        self.check(("parts", ()), (), 3, (None, (), ("parts", ())))

    def test_parts_whose_reply_lies_in_another_part(self):
        strange = ("pairs", ((0, 1), (2, 3)))
        rows = ((((0, 1, 2),), strange), (((3, 4),), ("pairs", ((3, 4),))))
        rest = ((0, 1, 2), (3, 4))
        self.check(("parts", rows), rest, 2, (3, ((0, 1), (3, 4)), ("parts", ((TWO, strange), rows[1]))))

    def test_parts_within_parts(self):
        within = ("parts", ((TWO, BY_TWO), (((2, 3),), ("pairs", ((2, 3),)))))
        rows = ((((0, 1), (2, 3)), within), (((4, 5),), ("pairs", ((4, 5),))))
        behind = ("parts", ((TWO, BY_TWO), ((), ("pairs", ((2, 3),)))))
        self.check(("parts", rows), ((0, 1), (2, 3), (4, 5)), 3, (
            2, ((0, 1), (4, 5)), ("parts", ((TWO, behind), rows[1]))))

    def test_parts_of_sixty_strips(self):
        rest = TWO * 30 + ((2, 3),) * 30
        rows = ((TWO * 30, BY_TWO), (((2, 3),) * 30, ("pairs", ((2, 3),))))
        self.check(("parts", rows), rest, 7, (None, rest, ("parts", rows)))
        self.check(("parts", rows), rest, 2, (3, TWO * 30, ("parts", (rows[0], ((), ("pairs", ((2, 3),)))))))


class WeaverAnswersTest(FollowingTest):
    def check(self, paper, rest, hole, due):
        self.check_answer(paper, rest, "weaver", hole, due)

    def test_whole(self):
        for rest in (((),), ((), (0, 1))):
            for hole in (0, 59):
                self.check(WHOLE, rest, hole, (None, rest, WHOLE))

    def test_weight(self):
        self.check(WEIGHT, SINGLES, 0, (1, ((),), WEIGHT))
        self.check(WEIGHT, SINGLES, 1, (0, ((),), WEIGHT))
        self.check(WEIGHT, SINGLES, 5, (0, ((), (1,)), WEIGHT))
        self.check(WEIGHT, ((0, 1), (0, 2), (1, 2), (3,)), 3, (0, ((1,), (1, 2), (2,)), WEIGHT))
        self.check(WEIGHT, ((), ()), 5, (None, ((), ()), WEIGHT))
        self.check(WEIGHT, ((), (0,)), 0, (None, ((),), WEIGHT))

    def test_fewer(self):
        rest = ((0,), (1,), (2, 3))
        self.check(("fewer", SINGLES, WEAVER_CASES), rest, 0, (1, ((),), WHOLE))
        self.check(("fewer", SINGLES, WEIGHT), rest, 2, (0, ((), (1,)), WEIGHT))
        within = ("fewer", rest, ("fewer", SINGLES, EITHER))
        self.check(within, rest, 0, (1, ((),), WHOLE))
        self.check(("fewer", ((),), WHOLE), ((), (0,)), 0, (None, ((),), WHOLE))

    def test_cases(self):
        rest = ((0,), (1,), (2,))
        rows = ((0, 1, WHOLE), (1, None, ("cases", ((0, 2, WHOLE), (2, 0, WHOLE)))), (2, 0, WHOLE))
        self.check(("cases", rows), rest, 0, (1, ((), (2,)), WHOLE))
        self.check(("cases", rows), rest, 1, (None, ((0,), (2,)), rows[1][2]))
        self.check(("cases", rows), rest, 2, (0, ((), (1,)), WHOLE))

    def test_cases_where_no_row_has_the_hole(self):
        rest = ((0,), (1,), (2,))
        rows = ((0, 1, WHOLE), (1, 0, WHOLE), (2, 0, WHOLE))
        for hole in (3, 59):
            self.check(("cases", rows), rest, hole, (1, ((), (2,)), WHOLE))
        later = ((4, None, ("cases", ((5, 6, WHOLE), (6, 5, WHOLE)))), (5, 6, WHOLE), (6, 5, WHOLE))
        self.check(("cases", later), ((4,), (5,), (6,)), 0, (None, ((5,), (6,)), later[0][2]))

    def test_either(self):
        rest = ((0,), (1,), (2, 3))
        self.check(EITHER, rest, 0, (1, ((),), WHOLE))
        self.check(EITHER, rest, 1, (0, ((),), WHOLE))
        for hole in (2, 3, 59):
            self.check(EITHER, rest, hole, (0, ((),), WHOLE))

    def test_either_with_longer_papers(self):
        one, two = ((0, 1), (0, 2)), ((3, 4), (3, 5))
        second = ("fewer", two, ("knot", 3, ("cases", ((4, 5, WHOLE), (5, 4, WHOLE)))))
        paper = ("either", one, WEIGHT, two, second)
        rest = one + two
        for hole in (3, 4, 5, 6):
            self.check(paper, rest, hole, (0, ((1,), (2,)), WEIGHT))
        for hole in (0, 1, 2):
            self.check(paper, rest, hole, (3, ((4,), (5,)), second[2][2]))

    def test_either_of_empty_strips(self):
        self.check(("either", ((),), WHOLE, ((),), WEIGHT), ((),), 0, (None, ((),), WHOLE))


class KnotsNeededTest(unittest.TestCase):
    def check_needed(self, paper, rest, due):
        told = knots_needed(paper, rest)
        self.assertIs(type(told), int)
        self.assertEqual(told, due)

    def test_whole(self):
        self.check_needed(WHOLE, ((),), 0)
        self.check_needed(WHOLE, ((), (0, 1, 2)), 0)

    def test_weight(self):
        self.check_needed(WEIGHT, ((0,),), 1)
        self.check_needed(WEIGHT, ((0, 1), (0, 2), (1, 2), (3,)), 4)
        self.check_needed(WEIGHT, ((), ()), 0)
        self.check_needed(WEIGHT, tuple((hole,) for hole in range(60)), 60)

    def test_knot(self):
        self.check_needed(KNOT, ((0,),), 1)
        self.check_needed(("knot", 0, WEIGHT), ((0, 1), (0, 2)), 3)
        self.check_needed(("knot", None, WEIGHT), SINGLES, 3)
        self.check_needed(("knot", 0, ("cases", ((1, 2, WHOLE), (2, 1, WHOLE)))), ((0, 1), (0, 2)), 2)

    def test_fewer(self):
        self.check_needed(("fewer", ((0,),), KNOT), SINGLES, 1)
        self.check_needed(("fewer", ((0, 1), (0, 2)), WEIGHT), ((0,),), 3)
        self.check_needed(("fewer", ((0,),), WEIGHT), ((0,), (1,), (2,)), 1)

    def test_cases(self):
        self.check_needed(WEAVER_CASES, SINGLES, 1)
        rest = ((0,), (1,), (2,))
        rows = [(0, 1, WHOLE), (1, 0, WHOLE), (2, 0, WHOLE)]
        self.check_needed(("cases", tuple(rows)), rest, 1)
        for hole, (low, high) in enumerate(((1, 2), (0, 2), (0, 1))):
            longer = list(rows)
            longer[hole] = (hole, None, ("cases", ((low, high, WHOLE), (high, low, WHOLE))))
            self.check_needed(("cases", tuple(longer)), rest, 2)
            longer[hole] = (hole, None, WEIGHT)
            self.check_needed(("cases", tuple(longer)), rest, 3)
            longer[hole] = (hole, low, WEIGHT)
            self.check_needed(("cases", tuple(longer)), rest, 2)

    def test_either(self):
        self.check_needed(EITHER, SINGLES, 1)
        one, two = ((0, 1), (0, 2)), ((3,),)
        self.check_needed(("either", one, WEIGHT, two, WEIGHT), one + two, 3)
        self.check_needed(("either", two, WEIGHT, one, WEIGHT), one + two, 3)

    def test_as_the_words_say(self):
        for paper, rest, _, hand in won_papers(24, 1500, 4):
            if hand == "weaver":
                self.check_needed(paper, rest, most_knots(paper, rest))


class NextStandTest(unittest.TestCase):
    def check_next(self, paper, rest, hand, true_rest, told):
        reply, next_rest, next_paper = told
        self.assertTrue(good(next_paper, next_rest, OTHER[hand], hand))
        true_rest = took(true_rest, hand, reply)
        if hand == "moth":
            self.assertTrue(below(true_rest, next_rest))
        else:
            self.assertTrue(below(next_rest, true_rest))
            if () not in rest:
                self.assertLess(knots_needed(next_paper, next_rest), knots_needed(paper, rest))

    def check_stand(self, paper, rest, turn, hand):
        self.assertTrue(good(paper, rest, turn, hand))
        if turn == hand:
            self.check_next(paper, rest, hand, rest, first(paper, rest, hand))
            return
        for hole in range(7):
            told = answer(paper, rest, hand, hole)
            self.check_next(paper, rest, hand, took(rest, turn, hole), told)

    def test_what_holds_of_the_next_stand(self):
        seen = collections.Counter()
        for holes_there in (2, 3, 4, 5):
            for paper, rest, turn, hand in won_papers(23 + holes_there, 800, holes_there):
                self.check_stand(paper, rest, turn, hand)
                seen[hand, turn, paper[0]] += 1
        self.assertEqual(len(seen), 15)

    def play_on(self, paper, stand_rest, true_rest, hand, free, knots):
        """Each play of the other hand, to its end; tells the most own knots of the weaver."""
        if () in true_rest or not true_rest:
            self.assertEqual(() in true_rest, hand == "weaver")
            return knots
        most = knots
        for hole in free:
            left = [other for other in free if other != hole]
            behind = took(true_rest, OTHER[hand], hole)
            if hand == "moth":
                self.assertNotIn((), behind)
            reply, next_rest, next_paper = answer(paper, stand_rest, hand, hole)
            most = max(most, self.take_reply(reply, next_rest, next_paper, behind, hand, left, knots))
        return most

    def take_reply(self, reply, rest, paper, true_rest, hand, free, knots):
        if not true_rest or () in true_rest:
            return self.play_on(paper, rest, true_rest, hand, free, knots)
        hole = reply if reply in free else free[0]
        left = [other for other in free if other != hole]
        return self.play_on(paper, rest, took(true_rest, hand, hole), hand, left, knots + 1)

    def test_who_plays_by_a_good_paper_wins(self):
        played = collections.Counter()
        for paper, rest, turn, hand in won_papers(3, 400, 4):
            free = list(range(5))
            if turn == hand:
                reply, next_rest, next_paper = first(paper, rest, hand)
                most = self.take_reply(reply, next_rest, next_paper, rest, hand, free, 0)
            else:
                most = self.play_on(paper, rest, rest, hand, free, 0)
            if hand == "weaver":
                self.assertLessEqual(most, knots_needed(paper, rest))
            played[hand, turn] += 1
        self.assertEqual(len(played), 4)

    def test_what_is_handed_in_stays(self):
        for paper, rest, turn, hand in won_papers(2, 300, 4):
            before = repr((paper, rest))
            for _ in range(2):
                if turn == hand:
                    told = [first(paper, rest, hand), first(paper, rest, hand)]
                else:
                    told = [answer(paper, rest, hand, 1), answer(paper, rest, hand, 1)]
                self.assertEqual(told[0], told[1])
                self.assertEqual(repr((paper, rest)), before)


if __name__ == "__main__":
    unittest.main()
