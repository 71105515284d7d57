"""Players, and tables played out (points 2, 3, 24, 27, 28)."""

import collections
import copy
import itertools
import random
import unittest

from papers import HANDS, OTHER, won_paper, won_papers, wins, words_in
from plays import any_table, knots_from, lines, others, told_of

from mothloom.checking import good
from mothloom.following import answer, first, knots_needed
from mothloom.looms import loom_made
from mothloom.players import Follower, Player, Rower, Weigher, play_out
from mothloom.tables import Table
from mothloom.weights import heaviest, moth_weighs, weaver_weighs

WHOLE = ("whole",)
BARE = ("bare",)
WEIGHS = {"weaver": weaver_weighs, "moth": moth_weighs}


class PlayerTest(unittest.TestCase):
    def check_pick(self, player, table, due):
        """Asked several times it tells the same, and nothing is changed."""
        before = told_of(table)
        for _ in range(3):
            hole = player.pick(table)
            self.assertEqual(hole, due)
            self.assertIs(type(hole), int)
            self.assertIn(hole, table.free())
        self.assertEqual(told_of(table), before)

    def check_sees(self, player, hand, hole):
        self.assertIsNone(player.sees(hand, hole))


class PlainTest(PlayerTest):
    def test_the_least_free_hole(self):
        for hand, opener in itertools.product(HANDS, HANDS):
            player = Player(hand)
            table = Table(loom_made(6, [[4, 5], [3, 5]]), opener)
            self.check_pick(player, table, 0)
            for hole, due in ((1, 0), (0, 2), (2, 3)):
                self.check_sees(player, table.turn(), hole)
                table.take(hole)
                self.check_pick(player, table, due)

    def test_what_it_is_told_changes_nothing(self):
        player = Player("moth")
        table = Table(loom_made(3, [[0, 1, 2]]))
        for hand, hole in itertools.product(HANDS, (0, 1, 2, 59)):
            self.check_sees(player, hand, hole)
            self.check_pick(player, table, 0)

    def test_each_is_a_player(self):
        for kind in (Rower, Weigher, Follower):
            self.assertTrue(issubclass(kind, Player))


class RowerTest(PlayerTest):
    def table(self):
        return Table(loom_made(10, [[0, 1, 2, 3, 4], [5, 6, 7, 8, 9]]))

    def test_places_among_the_free_holes(self):
        table = self.table()
        for hole in (0, 3, 4):
            table.take(hole)
        free = [1, 2, 5, 6, 7, 8, 9]
        for number, due in ((0, 1), (2, 5), (6, 9), (7, 1), (8, 2), (-1, 9), (-7, 1), (-8, 9), (-9, 8)):
            self.check_pick(Rower("moth", [number]), table, due)
        for number in (10 ** 30, -10 ** 30, 2 ** 64 + 5, -2 ** 64):
            self.check_pick(Rower("moth", [number]), table, free[number % 7])

    def test_own_deeds_alone_are_counted(self):
        for hand in HANDS:
            table = self.table()
            rower = Rower(hand, [4, -1, 10 ** 20])
            self.check_pick(rower, table, 4)
            for _ in range(3):
                self.check_sees(rower, OTHER[hand], 7)
                self.check_pick(rower, table, 4)
            self.check_sees(rower, hand, 7)
            self.check_pick(rower, table, 9)
            self.check_sees(rower, OTHER[hand], 8)
            self.check_pick(rower, table, 9)
            self.check_sees(rower, hand, 8)
            self.check_pick(rower, table, 10 ** 20 % 10)
            self.check_sees(rower, hand, 2)
            self.check_pick(rower, table, 0)

    def test_behind_the_last_number_the_least(self):
        table = self.table()
        table.take(0)
        rower = Rower("weaver", (3,))
        self.check_pick(rower, table, 4)
        for _ in range(3):
            self.check_sees(rower, "weaver", 4)
            self.check_pick(rower, table, 1)
        for row in ([], ()):
            self.check_pick(Rower("moth", row), table, 1)

    def test_being_asked_does_not_count(self):
        rower = Rower("moth", [1, 2, 3])
        table = self.table()
        for _ in range(5):
            self.assertEqual(rower.pick(table), 1)
        rower.sees("moth", 1)
        self.assertEqual(rower.pick(table), 2)

    def test_one_free_hole(self):
        table = Table(loom_made(1, [[0]]))
        for number in (0, 1, -1, 5, 10 ** 30):
            self.check_pick(Rower("weaver", [number]), table, 0)

    def test_the_row_stays_its_owners(self):
        row = [3, 5, 7]
        rower = Rower("weaver", row)
        row[0] = 0
        row.clear()
        table = self.table()
        for due in (3, 5, 7, 0):
            self.check_pick(rower, table, due)
            self.check_sees(rower, "weaver", due)
            self.assertEqual(row, [])

    def test_two_rowers_of_one_row(self):
        row = [1, 2]
        one, two = Rower("weaver", row), Rower("weaver", row)
        one.sees("weaver", 1)
        self.assertEqual((one.pick(self.table()), two.pick(self.table())), (2, 1))
        self.assertEqual(row, [1, 2])


class WeigherTest(PlayerTest):
    def test_the_heaviest_hole_of_the_rest(self):
        for hand in HANDS:
            table = Table(loom_made(6, [[1, 2, 3], [3, 4], [4, 5, 3]]))
            self.check_pick(Weigher(hand), table, 3)
            table.take(3)
            self.check_pick(Weigher(hand), table, 4)
            table.take(4)
            self.check_pick(Weigher(hand), table, 1)

    def test_the_least_of_several(self):
        self.check_pick(Weigher("moth"), Table(loom_made(8, [[6, 7], [2, 5]])), 2)

    def test_no_holes_left(self):
        self.check_pick(Weigher("moth"), Table(loom_made(3, [])), 0)
        table = Table(loom_made(4, [[0], [2]]), "moth")
        table.take(0)
        table.take(2)
        self.assertEqual(table.rest(), ((),))
        self.check_pick(Weigher("weaver"), table, 1)

    def test_told_of_deeds_it_goes_by_the_table_alone(self):
        table = Table(loom_made(6, [[1, 2, 3], [3, 4]]))
        weigher = Weigher("weaver")
        for hand, hole in itertools.product(HANDS, (3, 0)):
            self.check_sees(weigher, hand, hole)
            self.check_pick(weigher, table, 3)

    def test_on_many_tables(self):
        chance = random.Random(27)
        for _ in range(200):
            table = any_table(chance, chance.randint(1, 12), 12)
            self.check_pick(Weigher(chance.choice(HANDS)), table, heaviest(table.rest()))


class Model:
    """A follower by the words of point 27."""

    def __init__(self, hand, rest, turn, paper):
        self.hand, self.rest, self.paper, self.reply = hand, rest, paper, None
        if turn == hand:
            self.reply, self.rest, self.paper = first(paper, rest, hand)

    def sees(self, hand, hole):
        if hand == self.hand:
            self.reply = None
        else:
            self.reply, self.rest, self.paper = answer(self.paper, self.rest, self.hand, hole)

    def pick(self, free):
        return self.reply if self.reply in free else free[0]


class FollowerTest(PlayerTest):
    def test_the_own_turn(self):
        table = Table(loom_made(4, [[0, 1], [2, 3]]), "moth")
        paper = ("bite", 2, ("pairs", ((0, 1),)))
        follower = Follower("moth", table.rest(), "moth", paper)
        self.check_pick(follower, table, 2)
        table.take(2)
        self.check_sees(follower, "moth", 2)
        self.check_pick(follower, table, 0)
        table.take(1)
        self.check_sees(follower, "weaver", 1)
        self.check_pick(follower, table, 0)

    def test_the_others_turn(self):
        table = Table(loom_made(5, [[1, 4], [2, 3]]))
        follower = Follower("moth", table.rest(), "weaver", ("pairs", ((1, 4), (2, 3))))
        self.check_pick(follower, table, 0)
        table.take(1)
        self.check_sees(follower, "weaver", 1)
        self.check_pick(follower, table, 4)
        table.take(4)
        self.check_sees(follower, "moth", 4)
        self.check_pick(follower, table, 0)

    def test_a_weaver_of_either_turn(self):
        table = Table(loom_made(5, [[1, 4], [2, 4]]))
        cases = ("cases", ((1, 2, WHOLE), (2, 1, WHOLE)))
        follower = Follower("weaver", table.rest(), "weaver", ("knot", 4, cases))
        self.check_pick(follower, table, 4)
        table.take(4)
        later = Follower("weaver", table.rest(), "moth", cases)
        self.check_pick(later, table, 0)
        self.check_sees(follower, "weaver", 4)
        table.take(1)
        for player in (follower, later):
            self.check_sees(player, "moth", 1)
            self.check_pick(player, table, 2)

    def test_a_reply_that_is_none(self):
        table = Table(loom_made(4, [[2, 3]]), "moth")
        follower = Follower("moth", ((2, 3),), "moth", ("bite", None, ("pairs", ((2, 3),))))
        self.check_pick(follower, table, 0)
        table.take(1)
        self.check_sees(follower, "moth", 1)
        table.take(0)
        self.check_sees(follower, "weaver", 0)
        self.check_pick(follower, table, 2)

    def test_a_reply_that_is_no_longer_free(self):
        table = Table(loom_made(4, [[0, 3], [1, 2]]))
        follower = Follower("moth", table.rest(), "weaver", ("pairs", ((0, 3), (1, 2))))
        follower.sees("weaver", 0)
        table.take(0)
        self.check_pick(follower, table, 3)
        table.take(3)
        self.check_pick(follower, table, 1)
        table.back()
        self.check_pick(follower, table, 3)

    def test_a_reply_that_is_no_hole_of_the_loom(self):
        table = Table(loom_made(3, [[1, 2]]), "moth")
        follower = Follower("moth", ((1, 2),), "moth", ("bite", 50, ("pairs", ((1, 2),))))
        self.check_pick(follower, table, 0)

    def test_an_own_deed_at_another_hole_drops_the_reply(self):
        for other in (0, 1, 2, 59):
            table = Table(loom_made(4, [[0, 3], [1, 2]]))
            follower = Follower("moth", table.rest(), "weaver", ("pairs", ((0, 3), (1, 2))))
            follower.sees("weaver", 0)
            self.check_pick(follower, table, 3)
            self.check_sees(follower, "moth", other)
            self.check_pick(follower, table, 0)
            self.check_sees(follower, "weaver", 2)
            self.check_pick(follower, table, 1)

    def test_told_of_several_deeds(self):
        table = Table(loom_made(6, [[0, 3], [1, 4], [2, 5]]))
        follower = Follower("moth", table.rest(), "weaver", ("pairs", ((0, 3), (1, 4), (2, 5))))
        for hole in (0, 1):
            self.check_sees(follower, "weaver", hole)
        self.check_pick(follower, table, 4)
        self.check_sees(follower, "moth", 3)
        self.check_pick(follower, table, 0)
        self.check_sees(follower, "moth", 4)
        self.check_pick(follower, table, 0)
        self.check_sees(follower, "weaver", 5)
        self.check_pick(follower, table, 2)

    def check_by_words(self, chance, paper, rest, turn, hand):
        follower, model = Follower(hand, rest, turn, paper), Model(hand, rest, turn, paper)
        table = Table(loom_made(8, [[6, 7]]))
        for _ in range(chance.randint(1, 7)):
            for _ in range(chance.choice((0, 1, 2))):
                self.assertEqual(follower.pick(table), model.pick(table.free()))
            told, hole = chance.choice((hand, OTHER[hand], OTHER[hand])), chance.randint(0, 5)
            self.check_sees(follower, told, hole)
            model.sees(told, hole)
            if table.winner() is None and chance.random() < 0.4:
                table.take(chance.choice([hole for hole in table.free() if hole < 6]))
        self.assertEqual(follower.pick(table), model.pick(table.free()))

    def test_by_words_with_papers_of_every_word(self):
        chance = random.Random(5)
        seen = set()
        for paper, rest, turn, hand in won_papers(6, 1500, 5):
            before = repr((paper, rest))
            self.check_by_words(chance, paper, rest, turn, hand)
            self.assertEqual(repr((paper, rest)), before)
            seen |= set(words_in(paper))
        self.assertEqual(len(seen), 10)

    def test_two_followers_of_one_paper(self):
        table = Table(loom_made(4, [[0, 3], [1, 2]]))
        paper = ("pairs", ((0, 3), (1, 2)))
        one, two = Follower("moth", table.rest(), "weaver", paper), Follower("moth", table.rest(), "weaver", paper)
        one.sees("weaver", 2)
        two.sees("weaver", 3)
        self.check_pick(one, table, 1)
        self.check_pick(two, table, 0)


class Logger(Player):
    def __init__(self, hand, log, holes):
        Player.__init__(self, hand)
        self.log, self.holes, self.name = log, list(holes), hand

    def pick(self, table):
        self.log.append((self.name, "asked", table.deeds()))
        return self.holes.pop(0)

    def sees(self, hand, hole):
        self.log.append((self.name, hand, hole))


class PlayOutTest(PlayerTest):
    def test_who_is_asked_and_told_in_what_order(self):
        log = []
        table = Table(loom_made(4, [[0, 1], [2, 3]]), "moth")
        told = play_out(table, Logger("weaver", log, [2]), Logger("moth", log, [1, 3]))
        self.assertEqual(told, "moth")
        self.assertEqual(log, [
            ("moth", "asked", []), ("weaver", "moth", 1), ("moth", "moth", 1),
            ("weaver", "asked", [1]), ("weaver", "weaver", 2), ("moth", "weaver", 2),
            ("moth", "asked", [1, 2]), ("weaver", "moth", 3), ("moth", "moth", 3),
        ])
        self.assertEqual(table.deeds(), [1, 2, 3])
        self.assertEqual(table.winner(), "moth")

    def test_the_weaver_wins(self):
        table = Table(loom_made(3, [[0, 1], [0, 2]]))
        self.assertEqual(play_out(table, Weigher("weaver"), Player("moth")), "weaver")
        self.assertEqual(table.deeds(), [0, 1, 2])

    def test_somebody_has_won_already(self):
        log = []
        table = Table(loom_made(3, []))
        self.assertEqual(play_out(table, Logger("weaver", log, []), Logger("moth", log, [])), "moth")
        table = Table(loom_made(3, [[1]]))
        table.take(1)
        self.assertEqual(play_out(table, Logger("weaver", log, []), Logger("moth", log, [])), "weaver")
        self.assertEqual(table.deeds(), [1])
        self.assertEqual(log, [])

    def test_in_mid_play(self):
        table = Table(loom_made(5, [[0, 1, 2], [3, 4]]))
        table.take(4)
        table.take(3)
        self.assertEqual(play_out(table, Player("weaver"), Rower("moth", [1])), "moth")
        self.assertEqual(table.deeds(), [4, 3, 0, 2])

    def test_no_more_deeds_than_free_holes(self):
        chance = random.Random(28)
        for _ in range(100):
            table = any_table(chance, chance.randint(1, 20), 20)
            begun = len(table.deeds())
            told = play_out(table, chance.choice(others(chance, "weaver")), chance.choice(others(chance, "moth")))
            self.assertEqual(told, table.winner())
            self.assertIn(told, HANDS)
            self.assertGreater(len(table.deeds()), begun)
            table.back()
            self.assertIsNone(table.winner())


class PromiseTest(PlayerTest):
    """A follower of a good paper wins, and so does a weigher whose hand weighs the rest."""

    def stands(self, seed, count, most_holes):
        """Tables in mid-play, each with the hand that wins and a good paper."""
        chance = random.Random(seed)
        for _ in range(count):
            table = any_table(chance, chance.randint(1, most_holes), 5)
            hand = wins(table.rest(), table.turn())
            yield table, hand, won_paper(chance, table.rest(), table.turn(), hand, 2)

    def check_end(self, table, hand, begun, needed):
        self.assertEqual(table.winner(), hand)
        if hand == "weaver":
            self.assertLessEqual(knots_from(table, begun), needed)

    def test_a_follower_against_every_line_of_play(self):
        seen = collections.Counter()
        for table, hand, paper in self.stands(3, 500, 6):
            rest, turn, begun = table.rest(), table.turn(), len(table.deeds())
            self.assertTrue(good(paper, rest, turn, hand))
            needed = knots_needed(paper, rest) if hand == "weaver" else 0
            for end in lines(table, hand, Follower(hand, rest, turn, paper)):
                self.check_end(end, hand, begun, needed)
            seen.update({(hand, word) for word in words_in(paper)})
        self.assertEqual(len(seen), 12)

    def test_a_follower_against_the_other_players(self):
        chance = random.Random(8)
        for table, hand, paper in self.stands(4, 200, 8):
            rest, turn, begun = table.rest(), table.turn(), len(table.deeds())
            needed = knots_needed(paper, rest) if hand == "weaver" else 0
            for other in others(chance, OTHER[hand]):
                played = copy.deepcopy(table)
                sides = {hand: Follower(hand, rest, turn, paper), OTHER[hand]: other}
                self.assertEqual(play_out(played, sides["weaver"], sides["moth"]), hand)
                self.check_end(played, hand, begun, needed)

    def test_a_weigher_against_every_line_of_play(self):
        chance = random.Random(12)
        seen = collections.Counter()
        for _ in range(700):
            table = any_table(chance, chance.randint(1, 6), 9, (2, 2, 3, 3, 4))
            for hand in HANDS:
                if WEIGHS[hand](table.rest(), table.turn()):
                    seen[hand, table.turn()] += 1
                    for end in lines(table, hand, Weigher(hand)):
                        self.assertEqual(end.winner(), hand)
        self.assertEqual(len(seen), 4)
        self.assertGreater(min(seen.values()), 20)

    def test_a_weigher_on_large_looms(self):
        chance = random.Random(13)
        seen = collections.Counter()
        for _ in range(120):
            sizes = chance.choice(((2, 3), (6, 7), (7, 8, 9)))
            table = any_table(chance, chance.choice((8, 12, 20, 60)), 60, sizes)
            for hand in HANDS:
                if WEIGHS[hand](table.rest(), table.turn()):
                    seen[hand] += 1
                    for other in others(chance, OTHER[hand]):
                        sides = {hand: Weigher(hand), OTHER[hand]: other}
                        self.assertEqual(play_out(copy.deepcopy(table), sides["weaver"], sides["moth"]), hand)
        self.assertEqual(len(seen), 2)


if __name__ == "__main__":
    unittest.main()
