"""Papers: what makes them good (points 2, 17, 18, 19)."""

import collections
import itertools
import random
import unittest

from papers import HANDS, any_paper, any_rest, good_by_words, took, wins, won_papers, words_in
from small import small_rests

from mothloom.checking import good

BARE = ("bare",)
WHOLE = ("whole",)
WEIGHT = ("weight",)
TWO = ((0, 1),)
BY_TWO = ("pairs", ((0, 1),))
# The moth has the better of one strip of two holes, the weaver of two strips of one hole.
MOTH_CASES = ("cases", ((0, 1, BARE), (1, 0, BARE)))
SINGLES = ((0,), (1,))
WEAVER_CASES = ("cases", ((0, 1, WHOLE), (1, 0, WHOLE)))
KNOT = ("knot", 0, WHOLE)
EITHER = ("either", ((0,),), KNOT, ((1,),), ("knot", 1, WHOLE))
BOTH_TURNS = {
    "moth": {("moth", "weaver"), ("moth", "moth")},
    "weaver": {("weaver", "weaver"), ("weaver", "moth")},
}
# The hand stands ahead of the turn.
BITING = {("moth", "moth")}
ANSWERING_MOTH = {("moth", "weaver")}
KNOTTING = {("weaver", "weaver")}
ANSWERING_WEAVER = {("weaver", "moth")}


def goods(paper, rest):
    """The hands and turns that the paper is good for."""
    return {(hand, turn) for hand, turn in itertools.product(HANDS, HANDS) if good(paper, rest, turn, hand)}


class GoodTest(unittest.TestCase):
    def check_goods(self, rows):
        for paper, rest, due in rows:
            with self.subTest(paper=paper, rest=rest):
                self.assertEqual(goods(paper, rest), due)

    def check_moth(self, paper, rest, due):
        self.assertIs(good(paper, rest, "weaver", "moth"), due)

    def check_weaver(self, paper, rest, due):
        self.assertIs(good(paper, rest, "moth", "weaver"), due)


class WordsTest(GoodTest):
    def test_bare_and_whole(self):
        self.check_goods([
            (BARE, (), BOTH_TURNS["moth"]),
            (BARE, ((),), set()),
            (BARE, ((0,),), set()),
            (BARE, TWO, set()),
            (WHOLE, ((),), BOTH_TURNS["weaver"]),
            (WHOLE, ((), (0, 1)), BOTH_TURNS["weaver"]),
            (WHOLE, (), set()),
            (WHOLE, ((0,),), set()),
        ])

    def test_weight(self):
        self.check_goods([
            (WEIGHT, ((0, 1, 2),), BOTH_TURNS["moth"]),
            (WEIGHT, ((0, 1), (2, 3)), BOTH_TURNS["moth"]),
            (WEIGHT, ((0, 1), (2, 3), (4, 5)), BITING),
            (WEIGHT, ((0,),), BITING | KNOTTING),
            (WEIGHT, SINGLES, BOTH_TURNS["weaver"]),
            (WEIGHT, ((0,), (0,)), KNOTTING),
            (WEIGHT, (), BOTH_TURNS["moth"]),
            (WEIGHT, ((),), BOTH_TURNS["weaver"]),
            (WEIGHT, ((),) + ((0, 1, 2, 3),) * 8, ANSWERING_WEAVER),
        ])

    def test_each_other_word_under_each_hand_and_turn(self):
        self.check_goods([
            (BY_TWO, TWO, ANSWERING_MOTH),
            (("pairs", ()), (), ANSWERING_MOTH),
            (("bite", 0, BARE), ((0,),), BITING),
            (("knot", 0, WHOLE), ((0,),), KNOTTING),
            (MOTH_CASES, TWO, ANSWERING_MOTH),
            (WEAVER_CASES, SINGLES, ANSWERING_WEAVER),
            (("parts", ((TWO, BY_TWO),)), TWO, ANSWERING_MOTH),
            (("fewer", ((0,),), KNOT), SINGLES, KNOTTING),
            (("fewer", SINGLES, WEAVER_CASES), SINGLES, ANSWERING_WEAVER),
            (("fewer", SINGLES, WEIGHT), SINGLES, BOTH_TURNS["weaver"]),
            (EITHER, SINGLES, ANSWERING_WEAVER),
        ])

    def test_a_word_that_stands_nowhere(self):
        for paper in (("maybe",), ("",), ("Bare",), ("moth", 0, BARE), ("bites", 0, BARE)):
            for rest in ((), ((),), ((0,),), TWO):
                self.assertEqual(goods(paper, rest), set())

    def test_a_truth_is_told(self):
        for paper, rest in ((BARE, ()), (BY_TWO, TWO), (MOTH_CASES, TWO), (WEAVER_CASES, SINGLES), (EITHER, SINGLES),
                            (("parts", ()), ()), (("bite", 0, BARE), ((0,),)), (KNOT, ((0,),))):
            for hand, turn in itertools.product(HANDS, HANDS):
                self.assertIs(type(good(paper, rest, turn, hand)), bool)


class MovesTest(GoodTest):
    def test_bite(self):
        self.check_goods([
            (("bite", 0, BARE), ((0,), (0, 1)), BITING),
            (("bite", 1, BARE), ((0,), (0, 1)), set()),
            (("bite", 2, BY_TWO), ((0, 1), (2,)), BITING),
            (("bite", 2, BY_TWO), ((0, 1), (3,)), set()),
        ])

    def test_bite_with_a_reply_that_does_nothing(self):
        self.check_goods([
            (("bite", None, BY_TWO), TWO, BITING),
            (("bite", None, BARE), (), BITING),
            (("bite", None, BARE), ((0,),), set()),
            (("bite", 59, BY_TWO), TWO, BITING),
            (("bite", None, ("bite", 0, BARE)), ((0,),), set()),
        ])

    def test_the_paper_of_a_bite_has_the_weaver_to_move(self):
        self.check_goods([
            (("bite", 0, ("bite", 1, BARE)), SINGLES, set()),
            (("bite", 0, WEIGHT), SINGLES, set()),
            (("bite", 0, WEIGHT), ((0,), (1, 2)), BITING),
            (("bite", 0, KNOT), SINGLES, set()),
        ])

    def test_knot(self):
        self.check_goods([
            (("knot", 1, WHOLE), ((0, 2), (1,)), KNOTTING),
            (("knot", 0, WHOLE), ((0, 2), (1,)), set()),
            (("knot", 0, ("cases", ((1, 2, WHOLE), (2, 1, WHOLE)))), ((0, 1), (0, 2)), KNOTTING),
            (("knot", 1, ("cases", ((1, 2, WHOLE), (2, 1, WHOLE)))), ((0, 1), (0, 2)), set()),
        ])

    def test_knot_with_a_reply_that_does_nothing(self):
        self.check_goods([
            (("knot", None, WHOLE), ((),), KNOTTING),
            (("knot", None, WEAVER_CASES), SINGLES, KNOTTING),
            (("knot", 59, WEAVER_CASES), SINGLES, KNOTTING),
            (("knot", None, WHOLE), ((0,),), set()),
        ])

    def test_the_paper_of_a_knot_has_the_moth_to_move(self):
        self.check_goods([
            (("knot", 0, ("knot", 1, WHOLE)), TWO, set()),
            (("knot", None, KNOT), ((0,),), set()),
            (("knot", 0, ("fewer", ((1,),), ("knot", 1, WHOLE))), TWO, set()),
        ])


class PairsTest(GoodTest):
    def test_pairs_that_hold_and_others(self):
        rest = ((0, 1, 4), (2, 3))
        self.check_moth(("pairs", ((0, 1), (2, 3))), rest, True)
        self.check_moth(("pairs", ((3, 2), (4, 0))), rest, True)
        for pairs in ((), ((0, 1),), ((0, 1), (2, 2)), ((0, 1), (2, 4)), ((0, 1), (2, 3), (3, 5)), ((0, 1), (1, 0))):
            self.check_moth(("pairs", pairs), rest, False)
        self.check_moth(("pairs", ((0, 1), (5, 6))), (), True)
        self.check_moth(("pairs", ((0, 0),)), (), False)
        self.check_moth(("pairs", ((0, 1),)), ((),), False)


class CasesTest(GoodTest):
    def test_rows_of_the_moth(self):
        rows = MOTH_CASES[1]
        for wrong in ((), rows[:1], rows[1:], rows[::-1], rows + rows[1:], rows[:1] + rows,
                      rows + ((2, None, BARE),), ((0, 1, BARE), (2, 0, BARE)), ((0, 1, BARE), (0, 1, BARE))):
            self.check_moth(("cases", wrong), TWO, False)
        self.check_moth(("cases", rows), TWO, True)

    def test_rows_of_the_weaver(self):
        rows = WEAVER_CASES[1]
        for wrong in ((), rows[:1], rows[1:], rows[::-1], rows + rows[1:], rows[:1] + rows,
                      rows + ((2, 0, WHOLE),), ((0, 1, WHOLE), (2, 0, WHOLE)), ((0, 1, WHOLE), (0, 1, WHOLE))):
            self.check_weaver(("cases", wrong), SINGLES, False)
        self.check_weaver(("cases", rows), SINGLES, True)

    def test_each_rows_paper_counts(self):
        for hole in (0, 1):
            rows = list(MOTH_CASES[1])
            rows[hole] = (hole, 1 - hole, WHOLE)
            self.check_moth(("cases", tuple(rows)), TWO, False)
            rows = list(WEAVER_CASES[1])
            rows[hole] = (hole, 1 - hole, BARE)
            self.check_weaver(("cases", tuple(rows)), SINGLES, False)

    def test_replies_of_the_moth(self):
        rest = ((0, 1, 2),)
        papers = [("pairs", ((1, 2),)), ("pairs", ((0, 2),)), ("pairs", ((0, 1),))]
        self.check_moth(("cases", tuple((hole, None, papers[hole]) for hole in range(3))), rest, True)
        self.check_moth(("cases", tuple((hole, hole, papers[hole]) for hole in range(3))), rest, True)
        self.check_moth(("cases", tuple((hole, 59, papers[hole]) for hole in range(3))), rest, True)
        self.check_moth(("cases", tuple((hole, None, BARE) for hole in range(3))), rest, False)
        self.check_moth(("cases", tuple((hole, (hole + 1) % 3, BARE) for hole in range(3))), rest, True)
        self.check_moth(("cases", ((0, None, BARE), (1, 0, BARE))), TWO, False)
        self.check_moth(("cases", ((0, 0, BARE), (1, 0, BARE))), TWO, False)

    def test_replies_of_the_weaver(self):
        rest = ((0,), (1,), (2,))
        rows = []
        for hole, (low, high) in enumerate(((1, 2), (0, 2), (0, 1))):
            rows.append((hole, None, ("cases", ((low, high, WHOLE), (high, low, WHOLE)))))
        self.check_weaver(("cases", tuple(rows)), rest, True)
        self.check_weaver(("cases", tuple((hole, hole, paper) for hole, _, paper in rows)), rest, True)
        self.check_weaver(("cases", tuple((hole, None, WHOLE) for hole in range(3))), rest, False)
        self.check_weaver(("cases", tuple((hole, (hole + 1) % 3, WHOLE) for hole in range(3))), rest, True)
        self.check_weaver(("cases", ((0, None, WHOLE), (1, 0, WHOLE))), SINGLES, False)

    def test_the_moth_on_a_whole_rest(self):
        self.check_moth(("cases", ()), ((),), False)
        self.check_moth(("cases", ()), ((), ()), False)
        self.check_moth(("cases", ((0, None, BARE),)), ((), (0,)), False)
        self.check_moth(("cases", ()), (), True)

    def test_the_weaver_on_a_rest_without_holes(self):
        self.check_weaver(("cases", ()), (), False)
        self.check_weaver(("cases", ()), ((),), False)
        self.check_weaver(("cases", ()), ((), ()), False)
        self.check_weaver(("cases", ((0, None, WHOLE),)), ((),), False)
        self.check_weaver(("cases", ((0, None, WHOLE),)), ((), (0,)), True)

    def test_the_rest_is_the_one_behind_both_deeds(self):
        rest = ((0, 1), (0, 2), (1, 2))
        self.check_moth(("cases", ((0, 1, WEIGHT), (1, 2, WEIGHT), (2, 0, WEIGHT))), rest, False)
        rest = ((0, 1), (2, 3))
        papers = {hole: ("pairs", ((2, 3),) if hole < 2 else ((0, 1),)) for hole in range(4)}
        self.check_moth(("cases", tuple((hole, hole ^ 1, papers[hole]) for hole in range(4))), rest, True)
        self.check_moth(("cases", tuple((hole, hole ^ 2, papers[hole]) for hole in range(4))), rest, False)
        self.check_moth(("cases", tuple((hole, hole ^ 1, papers[hole ^ 2]) for hole in range(4))), rest, False)


class PartsTest(GoodTest):
    def test_parts_of_pieces(self):
        rest = ((0, 1), (2, 3))
        one, two = (TWO, BY_TWO), (((2, 3),), ("pairs", ((2, 3),)))
        self.check_moth(("parts", (one, two)), rest, True)
        self.check_moth(("parts", (two, one)), rest, True)
        self.check_moth(("parts", (one, two, ((), BARE))), rest, True)

    def test_parts_above_the_rest(self):
        self.check_moth(("parts", ((TWO, BY_TWO),)), ((0, 1, 2), (0, 1, 3)), True)

    def test_parts_that_are_not_apart(self):
        rest = ((0, 1), (0, 2))
        self.check_moth(("parts", ((TWO, BY_TWO), (((0, 2),), ("pairs", ((0, 2),))))), rest, False)
        self.check_moth(("parts", ((TWO, BY_TWO), (TWO, BY_TWO))), TWO * 2, False)
        self.check_moth(("parts", ((TWO, BY_TWO), ((), BARE), ((), BARE))), TWO, True)

    def test_a_hole_that_the_rest_has_not(self):
        part = ((0, 1), (2, 3))
        paper = ("pairs", ((0, 1), (2, 3)))
        self.check_moth(("parts", ((part, paper),)), TWO * 2, False)
        self.check_moth(("parts", ((part, paper),)), ((0, 1), (2, 3)), True)
        self.check_moth(("parts", ((part, paper),)), ((0, 1, 2, 3),) * 2, True)
        self.check_moth(("parts", ((TWO, BY_TWO), (((2, 3),), ("pairs", ((2, 3),))))), TWO * 2, False)

    def test_more_strips_than_the_rest(self):
        self.check_moth(("parts", ((TWO * 2, BY_TWO),)), TWO, False)
        self.check_moth(("parts", ((TWO * 2, BY_TWO),)), TWO * 2, True)
        rest = ((0, 1), (2, 3))
        row = (((2, 3),), ("pairs", ((2, 3),)))
        self.check_moth(("parts", ((TWO * 2, BY_TWO), row)), rest, False)
        self.check_moth(("parts", ((TWO, BY_TWO), row)), rest, True)

    def test_more_than_sixty_strips(self):
        rest = TWO * 30 + ((2, 3),) * 30
        row = (((2, 3),) * 30, ("pairs", ((2, 3),)))
        self.check_moth(("parts", ((TWO * 30, BY_TWO), row)), rest, True)
        self.check_moth(("parts", ((TWO * 31, BY_TWO), row)), rest, False)
        self.check_moth(("parts", ((TWO * 60, BY_TWO), row)), rest, False)
        self.check_moth(("parts", ((TWO * 60, BY_TWO),) * 60), rest, False)

    def test_the_rest_is_not_below_them(self):
        rest = ((0, 1), (2, 3))
        self.check_moth(("parts", ((TWO, BY_TWO),)), rest, False)
        self.check_moth(("parts", ((((0, 1, 2),), BY_TWO),)), ((0, 1), (1, 2)), False)
        self.check_moth(("parts", ((((0, 1, 2),), BY_TWO),)), ((0, 1), (0, 2)), False)
        self.check_moth(("parts", (((), BARE),)), TWO, False)

    def test_no_parts_at_all(self):
        self.check_moth(("parts", ()), (), True)
        self.check_moth(("parts", ()), TWO, False)
        self.check_moth(("parts", ()), ((),), False)

    def test_a_whole_rest(self):
        self.check_moth(("parts", ((((),), WEIGHT),)), ((),), False)
        self.check_moth(("parts", (((), BARE),)), ((),), False)

    def test_each_parts_paper_counts(self):
        rest = ((0, 1), (2, 3))
        one, two = (TWO, BY_TWO), (((2, 3),), ("pairs", ((2, 3),)))
        self.check_moth(("parts", (one, (two[0], BY_TWO))), rest, False)
        self.check_moth(("parts", ((one[0], two[1]), two)), rest, False)
        self.check_moth(("parts", (one, (two[0], ("bite", 2, BARE)))), rest, False)


class FewerTest(GoodTest):
    def test_the_rest_is_below(self):
        for turn in HANDS:
            self.assertIs(good(("fewer", SINGLES, WEIGHT), SINGLES + ((2, 3),), turn, "weaver"), True)
            self.assertIs(good(("fewer", SINGLES, WEIGHT), ((0,), (2,)), turn, "weaver"), False)
            self.assertIs(good(("fewer", ((),), WHOLE), ((), (0,)), turn, "weaver"), True)
            self.assertIs(good(("fewer", ((),), WHOLE), ((0,),), turn, "weaver"), False)

    def test_not_the_other_way_about(self):
        longer = ("knot", 0, ("knot", 1, WHOLE))
        self.assertIs(good(("fewer", ((0,),), KNOT), TWO, "weaver", "weaver"), False)
        self.assertIs(good(("fewer", ((0, 1),), longer), ((0,),), "weaver", "weaver"), False)
        self.assertIs(good(("fewer", ((0, 1), (0, 2)), WEIGHT), ((0,),), "weaver", "weaver"), True)

    def test_more_strips_than_the_rest_are_well(self):
        under = ((0,), (0,), (0, 1))
        self.assertIs(good(("fewer", under, KNOT), ((0,),), "weaver", "weaver"), True)

    def test_the_paper_counts_with_the_same_hand_to_move(self):
        self.assertEqual(goods(("fewer", SINGLES, KNOT), SINGLES), KNOTTING)
        self.assertEqual(goods(("fewer", SINGLES, WEAVER_CASES), SINGLES), ANSWERING_WEAVER)
        self.assertEqual(goods(("fewer", ((0,),), WEAVER_CASES), SINGLES), set())
        self.assertEqual(goods(("fewer", ((0,),), WEIGHT), SINGLES), KNOTTING)


class EitherTest(GoodTest):
    def test_two_rests_apart(self):
        self.check_weaver(EITHER, SINGLES, True)
        self.check_weaver(EITHER, ((0,), (1,), (2, 3)), True)
        longer = ("either", ((0, 2),) * 2, ("knot", 0, WHOLE), ((1,),), ("knot", 1, WHOLE))
        self.check_weaver(longer, SINGLES, False)

    def test_rests_that_are_not_apart(self):
        self.check_weaver(("either", ((0,),), KNOT, ((0,),), KNOT), ((0,),), False)
        one, two = ((0, 1), (0, 2)), ((0, 3), (0, 4))
        self.check_weaver(("either", one, WEIGHT, two, WEIGHT), one + two, False)
        two = ((3, 4), (3, 5))
        self.check_weaver(("either", one, WEIGHT, two, WEIGHT), one + two, True)

    def test_one_of_them_is_not_below(self):
        for rest in (((0,),), ((1,),), ((2,),), ((0, 1),), ((0,), (1, 2)), ((0, 2), (1,)), ()):
            self.check_weaver(EITHER, rest, False)

    def test_each_paper_counts_with_the_weaver_to_move(self):
        for place in (2, 4):
            for wrong in (WHOLE, BARE, ("knot", 5, WHOLE), ("knot", None, WHOLE), WEAVER_CASES):
                paper = list(EITHER)
                paper[place] = wrong
                self.check_weaver(tuple(paper), SINGLES, False)
        self.check_weaver(("either", SINGLES, WEAVER_CASES, ((2,),), WEIGHT), SINGLES + ((2,),), False)

    def test_each_paper_is_for_the_rest_ahead_of_it(self):
        self.check_weaver(("either", ((0,),), EITHER[4], ((1,),), EITHER[2]), SINGLES, False)
        self.check_weaver(("either", ((1,),), EITHER[4], ((0,),), EITHER[2]), SINGLES, True)

    def test_two_empty_strips(self):
        self.check_weaver(("either", ((),), WHOLE, ((),), WHOLE), ((),), True)
        self.check_weaver(("either", ((),), WHOLE, ((),), WHOLE), ((0,),), False)


class DeepTest(GoodTest):
    def deep_fewer(self, paper, rest, deep):
        for _ in range(deep):
            paper = ("fewer", rest, paper)
        return paper

    def test_papers_within_papers(self):
        for deep in (1, 2, 15, 28, 33):
            paper = self.deep_fewer(KNOT, ((0,),), deep)
            self.assertEqual(goods(paper, ((0,),)), KNOTTING)
            self.assertEqual(goods(self.deep_fewer(("knot", 1, WHOLE), ((0,),), deep), ((0,),)), set())
            self.assertEqual(goods(paper, ((1,),)), set())

    def test_parts_within_parts(self):
        for deep in (1, 2, 15, 29, 33):
            paper, wrong = BY_TWO, ("pairs", ((0, 2),))
            for _ in range(deep):
                paper, wrong = ("parts", ((TWO, paper),)), ("parts", ((TWO, wrong),))
            self.assertEqual(goods(paper, TWO), ANSWERING_MOTH)
            self.assertEqual(goods(wrong, TWO), set())

    def row_of_cases(self, last):
        """Thirty papers within one another: each strip (h, h + 1) answered, the others kept as parts."""
        rest, paper = (), last
        for step in range(14):
            low = 2 * step
            rest = tuple(sorted(rest + ((low, low + 1),)))
            rows = [(rest[:-1], paper)] if step else []
            rows.append((((low, low + 1),), ("cases", ((low, low + 1, BARE), (low + 1, low, BARE)))))
            paper = ("parts", tuple(rows))
        return paper, rest

    def test_cases_within_parts(self):
        paper, rest = self.row_of_cases(BARE)
        self.assertEqual(goods(paper, rest), ANSWERING_MOTH)
        self.assertEqual(goods(paper, rest[1:]), set())

    def test_many_papers(self):
        rest = tuple((hole,) for hole in range(60))
        rows = []
        for hole in range(60):
            behind = tuple((other,) for other in range(60) if other != hole)
            rows.append((hole, None, ("fewer", behind[:2], ("cases", (
                (behind[0][0], behind[1][0], WHOLE), (behind[1][0], behind[0][0], WHOLE))))))
        self.check_weaver(("cases", tuple(rows)), rest, True)
        rows[59] = (59, None, BARE)
        self.check_weaver(("cases", tuple(rows)), rest, False)


class WithTryingTest(unittest.TestCase):
    def check_sound(self, paper, rest):
        for hand, turn in itertools.product(HANDS, HANDS):
            told = good(paper, rest, turn, hand)
            self.assertIs(told, good_by_words(paper, rest, turn, hand))
            if told:
                self.assertEqual(wins(rest, turn), hand)
            if (hand, () in rest) == ("moth", True) or (hand, rest) == ("weaver", ()):
                self.assertIs(told, False)

    def test_papers_that_win_are_good(self):
        seen = collections.Counter()
        for holes in (2, 3, 4, 5):
            for paper, rest, turn, hand in won_papers(18 + holes, 800, holes):
                self.assertIs(good(paper, rest, turn, hand), True, (paper, rest, turn, hand))
                self.check_sound(paper, rest)
                seen[hand, turn, paper[0]] += 1
        self.assertEqual(len(seen), 15)
        self.assertGreater(min(seen.values()), 20)

    def test_papers_for_other_rests(self):
        chance = random.Random(19)
        papers = [row[0] for row in won_papers(20, 500, 3)]
        for paper in papers:
            for _ in range(4):
                self.check_sound(paper, any_rest(chance, 3))

    def test_papers_drawn_blindly(self):
        chance = random.Random(21)
        for _ in range(6000):
            self.check_sound(any_paper(chance, 2, 3), any_rest(chance, 2))

    def test_small_papers_on_each_small_rest(self):
        short = [BARE, WHOLE, WEIGHT, BY_TWO, ("pairs", ())]
        papers = list(short)
        for word, reply, paper in itertools.product(("bite", "knot"), (None, 0, 1), short):
            papers.append((word, reply, paper))
        for reply, other, one, two in itertools.product((None, 1), (None, 0), short, short):
            papers.append(("cases", ((0, reply, one), (1, other, two))))
        rests = list(small_rests(2, 2))
        for rest, paper in itertools.product(rests, short):
            papers.append(("fewer", rest, paper))
            papers.append(("parts", ((rest, paper),)))
        for paper, rest in itertools.product(papers, rests):
            self.check_sound(paper, rest)

    def test_all_words_are_drawn(self):
        words = set()
        for paper, _, _, _ in won_papers(24, 500):
            words.update(words_in(paper))
        self.assertEqual(len(words), 10)


class HandedInTest(unittest.TestCase):
    def test_papers_and_rests_stay(self):
        chance = random.Random(2)
        for _ in range(300):
            paper, rest = any_paper(chance, 3, 3), any_rest(chance, 3)
            before = (repr(paper), repr(rest))
            told = goods(paper, rest)
            self.assertEqual((repr(paper), repr(rest)), before)
            self.assertEqual(goods(paper, rest), told)


if __name__ == "__main__":
    unittest.main()
