"""Settling: pieces told together, small rests, settled or open (points 2, 3, 17, 18, 31, 32)."""

import collections
import itertools
import random
import unittest

from papers import HANDS, OTHER, holes, keeps_the_bounds, wins
from small import random_rest, small_rests

from mothloom.checking import good
from mothloom.orders import thinned
from mothloom.pairs import own_pairs
from mothloom.pieces import pieces
from mothloom.settling import by_pieces, is_small, settled
from mothloom.threats import forced
from mothloom.weights import moth_weighs, weaver_weighs

BOTH = ("weaver", "weaver")
MOVER = ("weaver", "moth")
NONE = ("moth", "moth")


def shifted(rest, by):
    return tuple(tuple(hole + by for hole in strip) for strip in rest)


def all_of(*rests):
    return tuple(sorted(itertools.chain(*rests)))


def must_be_settled(rest, turn):
    """Point 32, row by row."""
    if () in rest or not rest or moth_weighs(rest, turn) or weaver_weighs(rest, turn):
        return True
    if all(len(holes(piece)) <= 6 for piece in pieces(thinned(rest))):
        return True
    if own_pairs(thinned(rest))[0] == "pairs":
        return True
    return turn == "weaver" and len(rest) <= 12 and forced(rest, 2) is not None


class ByPiecesTest(unittest.TestCase):
    def test_no_pieces(self):
        for turn, row in itertools.product(HANDS, ([], ())):
            self.assertEqual(by_pieces(row, turn), "moth")

    def test_one_piece(self):
        for telling in (BOTH, MOVER, NONE):
            self.assertEqual(by_pieces([telling], "weaver"), telling[0])
            self.assertEqual(by_pieces((telling,), "moth"), telling[1])

    def test_two_pieces_that_the_weaver_wins_moving(self):
        self.assertEqual(by_pieces([MOVER, MOVER], "moth"), "weaver")
        self.assertEqual(by_pieces([MOVER, NONE, NONE, MOVER], "moth"), "weaver")
        self.assertEqual(by_pieces([NONE, MOVER, NONE], "moth"), "moth")
        self.assertEqual(by_pieces([NONE, MOVER, NONE], "weaver"), "weaver")

    def test_many_pieces(self):
        for turn in HANDS:
            self.assertEqual(by_pieces([NONE] * 200, turn), "moth")
            self.assertEqual(by_pieces([NONE] * 200 + [BOTH], turn), "weaver")
        self.assertEqual(by_pieces([NONE] * 100 + [MOVER] + [NONE] * 100, "moth"), "moth")
        self.assertEqual(by_pieces([MOVER] + [NONE] * 100 + [MOVER], "moth"), "weaver")

    def test_by_words(self):
        for count in range(5):
            for row in itertools.product((BOTH, MOVER, NONE), repeat=count):
                moving = sum(telling[0] == "weaver" for telling in row)
                due = {"weaver": moving >= 1, "moth": moving >= 2 or any(telling[1] == "weaver" for telling in row)}
                for turn in HANDS:
                    self.assertEqual(by_pieces(list(row), turn) == "weaver", due[turn])

    def test_what_is_handed_in_stays(self):
        row = [MOVER, NONE]
        by_pieces(row, "moth")
        self.assertEqual(row, [MOVER, NONE])

    def check_joined(self, rests):
        parts = [shifted(rest, 3 * place) for place, rest in enumerate(rests)]
        row = [(wins(part, "weaver"), wins(part, "moth")) for part in parts]
        for turn in HANDS:
            self.assertEqual(by_pieces(row, turn), wins(all_of(*parts), turn))

    def test_small_pieces_joined(self):
        for rests in itertools.product(list(small_rests(2, 2)), repeat=2):
            self.check_joined(rests)
        chance = random.Random(31)
        for _ in range(150):
            self.check_joined([random_rest(chance, 3, 3, 1) for _ in range(chance.randint(2, 3))])


class IsSmallTest(unittest.TestCase):
    def test_six_and_seven_holes(self):
        six, seven = ((0, 1, 2), (2, 3, 4), (4, 5)), ((0, 1, 2), (2, 3, 4), (4, 5, 6))
        self.assertIs(is_small(six), True)
        self.assertIs(is_small(seven), False)
        self.assertIs(is_small((tuple(range(6)),)), True)
        self.assertIs(is_small((tuple(range(7)),)), False)
        self.assertIs(is_small(all_of(*[shifted(six, 6 * place) for place in range(10)])), True)
        self.assertIs(is_small(all_of(shifted(six, 10), seven)), False)
        self.assertIs(is_small(all_of(six, shifted(seven, 10))), False)

    def test_the_thinned_rest_counts(self):
        self.assertIs(is_small(((0, 1), (0, 1, 2, 3, 4, 5, 6, 7))), True)
        self.assertIs(is_small(((0, 1), (0, 2, 3, 4, 5, 6, 7))), False)
        self.assertIs(is_small(((0, 1, 2), (3, 4, 5), (3, 4, 5, 6), (2, 3, 4, 5))), True)
        self.assertIs(is_small(((), tuple(range(60)))), True)

    def test_whole_bare_and_lone_holes(self):
        self.assertIs(is_small(()), True)
        self.assertIs(is_small(((),)), True)
        self.assertIs(is_small(((), ())), True)
        self.assertIs(is_small(tuple((hole,) for hole in range(60))), True)

    def test_by_words(self):
        chance = random.Random(32)
        seen = collections.Counter()
        for _ in range(300):
            rest = random_rest(chance, chance.randint(6, 14), 7, 1)
            due = all(len(holes(piece)) <= 6 for piece in pieces(thinned(rest)))
            self.assertIs(is_small(rest), due)
            seen[due] += 1
        self.assertEqual(len(seen), 2)


class SettledTest(unittest.TestCase):
    def check_told(self, told, rest, turn):
        self.assertIs(type(told), tuple)
        hand, paper = told
        self.assertIn(hand, HANDS)
        self.assertTrue(keeps_the_bounds(paper))
        self.assertTrue(good(paper, rest, turn, hand))
        self.assertFalse(good(paper, rest, turn, OTHER[hand]))
        if len(holes(rest)) <= 8 and len(rest) <= 20:
            self.assertEqual(hand, wins(rest, turn))

    def check(self, rest, turn, hand=None):
        """It is settled, by a paper that is good; by that hand, where one is named."""
        before = repr(rest)
        told = settled(rest, turn)
        self.check_told(told, rest, turn)
        self.assertEqual(told[0], hand or told[0])
        self.assertEqual(settled(rest, turn), told)
        self.assertEqual(repr(rest), before)
        return told[1]

    def check_both(self, rest, moving, waiting):
        self.check(rest, "weaver", moving)
        self.check(rest, "moth", waiting)


class AtSightTest(SettledTest):
    def test_whole(self):
        for rest in (((),), ((), ()), ((), (0, 1)), ((),) + tuple((hole, hole + 1, 59) for hole in range(57)),
                     ((),) * 60, ((), tuple(range(60)))):
            self.check_both(rest, "weaver", "weaver")

    def test_bare(self):
        self.check_both((), "moth", "moth")

    def test_the_moth_weighs(self):
        rest = tuple((hole, hole + 1, hole + 2, hole + 3, hole + 4, hole + 5, hole + 6) for hole in range(50))
        self.assertTrue(moth_weighs(rest, "weaver") and not is_small(rest))
        self.check_both(rest, "moth", "moth")
        rest = ((0, 1, 2), (0, 3, 4), (0, 5, 6), (0, 7, 8), (0, 9, 10), (1, 3, 5), (2, 4, 6))
        self.assertTrue(moth_weighs(rest, "moth") and not moth_weighs(rest, "weaver") and not is_small(rest))
        self.check(rest, "moth", "moth")

    def test_the_weaver_weighs(self):
        rest = tuple(itertools.combinations(range(10), 2))
        self.assertTrue(weaver_weighs(rest, "weaver") and weaver_weighs(rest, "moth") and not is_small(rest))
        self.check_both(rest, "weaver", "weaver")
        rest = ((0, 1, 2), (0, 3, 4), (0, 5, 6), (1,))
        self.check(rest, "weaver", "weaver")

    def test_the_weaver_weighs_without_threats(self):
        rest = tuple(itertools.combinations(range(7), 3))
        self.assertIsNone(forced(rest, 3))
        self.assertTrue(weaver_weighs(rest, "weaver") and not is_small(rest))
        self.check(rest, "weaver", "weaver")

    def test_the_turn_left_out(self):
        for rest in (((0,),), ((0, 1), (0, 2)), ((0, 1),), (), ((),), ((0, 1), (0, 2), (3, 4, 5))):
            self.assertEqual(settled(rest), settled(rest, "weaver"))
            self.assertEqual(settled(rest, turn="moth"), settled(rest, "moth"))
        self.assertEqual(settled(((0, 1), (0, 2)))[0], "weaver")


class PairsTest(SettledTest):
    def star(self, count):
        return tuple((0, 2 * place + 1, 2 * place + 2) for place in range(count))

    def test_pairs(self):
        rest = self.star(20)
        for turn in HANDS:
            self.assertFalse(moth_weighs(rest, turn) or weaver_weighs(rest, turn) or is_small(rest))
        self.check_both(rest, "moth", "moth")

    def test_pairs_of_the_thinned_rest_alone(self):
        rest = all_of(self.star(20), self.star(5), ((0, 1, 2, 3, 4, 5), (0, 1, 2, 4)))
        self.assertEqual(own_pairs(rest)[0], "crowd")
        self.assertEqual(own_pairs(thinned(rest))[0], "pairs")
        self.check_both(rest, "moth", "moth")

    def test_sixty_strips_by_pairs(self):
        twos = tuple((2 * place, 2 * place + 1) for place in range(30))
        for rest in (all_of(self.star(29), self.star(29), self.star(2)), all_of(twos, twos)):
            self.assertEqual(len(rest), 60)
            self.check_both(rest, "moth", "moth")


class ThreatsTest(SettledTest):
    CHAIN = ((0, 1), (0, 2, 3), (2, 4), (3, 5, 6, 7, 8))

    def test_won_by_threats(self):
        for rest in (self.CHAIN, shifted(self.CHAIN, 51), ((0, 1), (0, 2), (2, 3, 4, 5, 6, 7, 8))):
            self.assertFalse(moth_weighs(rest) or weaver_weighs(rest) or is_small(rest))
            self.check(rest, "weaver", "weaver")

    def longer(self, count):
        """With long strips that hang on, so many in all."""
        more = [(3, 10 + place, 20 + place, 30 + place, 40 + place) for place in range(count - len(self.CHAIN))]
        return all_of(self.CHAIN, more)

    def test_twelve_strips(self):
        rest = self.longer(12)
        self.assertEqual(len(rest), 12)
        self.assertFalse(is_small(rest))
        self.check(rest, "weaver", "weaver")

    def test_thirteen_strips(self):
        rest = self.longer(13)
        self.assertEqual(len(rest), 13)
        told = settled(rest, "weaver")
        if told is not None:
            self.check_told(told, rest, "weaver")

    def test_threats_are_no_use_with_the_moth_to_move(self):
        told = settled(self.CHAIN, "moth")
        if told is not None:
            self.check_told(told, self.CHAIN, "moth")


class SmallTest(SettledTest):
    MOVING = ((0, 1), (0, 2, 3), (2, 4))
    TRIPLES = tuple(itertools.combinations(range(6), 3))
    TRIANGLE = ((0, 1, 2), (0, 3, 4), (1, 3, 5), (2, 4, 5))

    def test_small_rests(self):
        for rest in small_rests(3, 3):
            for turn in HANDS:
                self.check(rest, turn, wins(rest, turn))

    def test_six_holes(self):
        chance = random.Random(33)
        seen = collections.Counter()
        for _ in range(400):
            rest = random_rest(chance, 6, chance.choice((3, 6, 12, 20)), chance.choice((1, 2, 2, 3)))
            for turn in HANDS:
                self.check(rest, turn, wins(rest, turn))
                seen[turn, wins(rest, turn)] += 1
        self.assertEqual(len(seen), 4)

    def test_two_pieces_of_the_weaver(self):
        two = all_of(self.MOVING, shifted(self.MOVING, 5))
        self.check_both(self.MOVING, "weaver", "moth")
        self.check_both(two, "weaver", "weaver")
        self.check_both(all_of(two, shifted(self.TRIANGLE, 20)), "weaver", "weaver")
        self.check_both(all_of(self.MOVING, shifted(self.TRIANGLE, 20)), "weaver", "moth")

    def test_one_piece_of_the_weaver_among_many(self):
        many = [shifted(self.TRIANGLE, 6 * place) for place in range(1, 10)]
        self.check_both(all_of(*many), wins(self.TRIANGLE, "weaver"), "moth")
        self.check_both(all_of(self.TRIPLES, *many), "weaver", "weaver")
        self.check_both(all_of(self.MOVING, *many), "weaver", "moth")

    def test_a_piece_within_longer_strips(self):
        rest = all_of(self.MOVING, ((0, 1, 9, 10, 11, 12, 13), (2, 4, 20, 21)))
        self.check_both(rest, "weaver", "moth")
        rest = all_of(self.TRIANGLE, ((0, 1, 2, 9), (0, 3, 4, 10, 11, 12)), shifted(self.MOVING, 20))
        self.check_both(rest, "weaver", "moth")

    def tellings(self, rests):
        return [(wins(rest, "weaver"), wins(rest, "moth")) for rest in rests]

    def test_many_small_pieces(self):
        chance = random.Random(34)
        seen = collections.Counter()
        for _ in range(250):
            size = chance.randint(3, 6)
            kinds = chance.choice(((2, 3), (3, 3, 4), (3, 4, 4), (2, 4)))
            parts = []
            for place in range(chance.randint(2, 60 // size)):
                count = chance.randint(1, 5)
                strips = [chance.sample(range(size), min(size, chance.choice(kinds))) for _ in range(count)]
                parts.append(shifted(tuple(sorted(tuple(sorted(strip)) for strip in strips)), size * place))
            rest = all_of(*parts)
            if len(rest) <= 60:
                for turn in HANDS:
                    paper = self.check(rest, turn, by_pieces(self.tellings(parts), turn))
                    seen[turn, paper[0]] += 1
        for row in (("weaver", "parts"), ("moth", "bite"), ("moth", "either"), ("moth", "fewer"), ("weaver", "knot")):
            self.assertGreater(seen[row], 0)

    def test_the_most_pieces(self):
        for rest in (
            tuple((hole,) for hole in range(60)),
            tuple((2 * hole, 2 * hole + 1) for hole in range(30)),
            all_of(*[shifted(self.TRIANGLE, 6 * place) for place in range(10)]),
            all_of(*[shifted(((0, 1, 2, 3), (2, 3, 4, 5), (0, 1, 4, 5)), 6 * place) for place in range(10)] * 2),
            all_of(*[shifted(self.TRIPLES, 6 * place) for place in range(3)]),
            all_of(*[shifted(((0, 1, 2), (0, 1, 3), (0, 2, 3), (1, 2, 3)), 4 * place) for place in range(15)]),
        ):
            self.assertTrue(is_small(rest))
            for turn in HANDS:
                self.check(rest, turn)

    def test_sixty_strips_in_one_piece(self):
        for turn in HANDS:
            self.check(tuple(sorted(self.TRIPLES * 3)), turn, "weaver")
            self.check(((0, 1, 2, 3, 4, 5),) * 60, turn, "moth")
            self.check(tuple(sorted(self.TRIANGLE * 15)), turn, wins(self.TRIANGLE, turn))


class OpenTest(SettledTest):
    def test_whatever_is_told_is_good(self):
        chance = random.Random(35)
        seen = collections.Counter()
        for _ in range(400):
            count = chance.choice((7, 8, 10, 14, 20, 60))
            kinds = chance.choice(((2, 3), (3, 3, 4), (3, 4), (2, 3, 4, 5), (3,), (4, 5)))
            sizes = [chance.choice(kinds) for _ in range(chance.choice((5, 9, 12, 13, 20, 40, 60)))]
            rest = tuple(sorted(tuple(sorted(chance.sample(range(count), size))) for size in sizes))
            for turn in HANDS:
                told = settled(rest, turn)
                if told is None:
                    self.assertFalse(must_be_settled(rest, turn))
                else:
                    self.check_told(told, rest, turn)
                seen[turn, told and told[0]] += 1
        self.assertEqual(len(seen), 6)

    def test_seven_holes_may_be_open(self):
        chance = random.Random(36)
        for _ in range(150):
            rest = random_rest(chance, 7, 9, 2)
            for turn in HANDS:
                told = settled(rest, turn)
                if told is None:
                    self.assertFalse(must_be_settled(rest, turn))
                else:
                    self.assertEqual(told[0], wins(rest, turn))
                    self.check_told(told, rest, turn)


if __name__ == "__main__":
    unittest.main()
