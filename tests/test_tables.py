"""Tables: turns, deeds, the rest of the play, the winner, deeds taken back (points 2, 26)."""

import itertools
import random
import unittest

from papers import HANDS, OTHER
from plays import told_of
from small import is_a_rest

from mothloom.errors import LoomError, NoDeed, NoHole, Over, Taken
from mothloom.looms import loom_made
from mothloom.tables import Table

NO_HOLES = [True, False, None, "", "0", "1", -1, -60, 60, 61, 10 ** 30, 1.0, 0.5, (), (1,), [], [1], {}, {1}, object()]


def due_of(loom, first, deeds):
    """What a table tells behind the deeds, by the words of point 26."""
    hands = [first if place % 2 == 0 else OTHER[first] for place in range(len(deeds) + 1)]
    knots = {hole for hole, hand in zip(deeds, hands) if hand == "weaver"}
    bites = {hole for hole, hand in zip(deeds, hands) if hand == "moth"}
    left = [tuple(hole for hole in ribbon if hole not in knots) for ribbon in loom[1] if not set(ribbon) & bites]
    winner = None
    if any(set(ribbon) <= knots for ribbon in loom[1]):
        winner = "weaver"
    if all(set(ribbon) & bites for ribbon in loom[1]):
        winner = "moth"
    free = [hole for hole in range(loom[0]) if hole not in deeds]
    return (hands[-1], list(deeds), sorted(knots), sorted(bites), free, tuple(sorted(left)), winner)


class TableTest(unittest.TestCase):
    def check_table(self, table, loom, first, deeds):
        self.assertEqual(told_of(table), due_of(loom, first, deeds))
        self.assertTrue(is_a_rest(table.rest()))
        self.assertTrue(table.winner() is not None or table.free() != [])

    def check_refused(self, table, hole, refusal):
        before = told_of(table)
        with self.assertRaises(refusal) as taken:
            table.take(hole)
        self.assertIs(type(taken.exception), refusal)
        self.assertEqual(told_of(table), before)


class PlayTest(TableTest):
    def test_at_the_begin(self):
        loom = loom_made(4, [[0, 1], [2, 3]])
        for table, first in ((Table(loom), "weaver"), (Table(loom, "weaver"), "weaver"), (Table(loom, "moth"), "moth"),
                             (Table(loom, first="moth"), "moth")):
            self.assertEqual(told_of(table), (first, [], [], [], [0, 1, 2, 3], ((0, 1), (2, 3)), None))

    def test_a_play_that_the_weaver_wins(self):
        loom = loom_made(5, [[0, 1], [0, 2], [3, 4]])
        table = Table(loom)
        self.assertIsNone(table.take(0))
        self.assertEqual(told_of(table), ("moth", [0], [0], [], [1, 2, 3, 4], ((1,), (2,), (3, 4)), None))
        self.assertIsNone(table.take(2))
        self.assertEqual(told_of(table), ("weaver", [0, 2], [0], [2], [1, 3, 4], ((1,), (3, 4)), None))
        self.assertEqual(table.take(1), "weaver")
        self.assertEqual(told_of(table), ("moth", [0, 2, 1], [0, 1], [2], [3, 4], ((), (3, 4)), "weaver"))

    def test_a_play_that_the_moth_wins(self):
        loom = loom_made(4, [[0, 1], [2, 3], [1, 3]])
        table = Table(loom, "moth")
        self.assertIsNone(table.take(3))
        self.assertEqual(told_of(table), ("weaver", [3], [], [3], [0, 1, 2], ((0, 1),), None))
        self.assertIsNone(table.take(0))
        self.assertEqual(told_of(table), ("moth", [3, 0], [0], [3], [1, 2], ((1,),), None))
        self.assertEqual(table.take(1), "moth")
        self.assertEqual(told_of(table), ("weaver", [3, 0, 1], [0], [1, 3], [2], (), "moth"))

    def test_knots_and_bites_rise(self):
        loom = loom_made(60, [[0, 59], [1, 58], [2, 57], [3, 56], [4, 55]])
        table = Table(loom, "moth")
        for hole in (40, 33, 8, 16, 20, 7, 30, 10):
            table.take(hole)
        self.assertEqual(table.deeds(), [40, 33, 8, 16, 20, 7, 30, 10])
        self.assertEqual(table.bites(), [8, 20, 30, 40])
        self.assertEqual(table.knots(), [7, 10, 16, 33])
        self.assertEqual(table.free(), [hole for hole in range(60) if hole not in (40, 33, 8, 16, 20, 7, 30, 10)])

    def test_a_loom_without_ribbons(self):
        for count, first in itertools.product((0, 1, 60), HANDS):
            table = Table(loom_made(count, []), first)
            self.assertEqual(told_of(table), (first, [], [], [], list(range(count)), (), "moth"))
            for hole in (0, count, None):
                self.check_refused(table, hole, Over)
            with self.assertRaises(NoDeed):
                table.back()

    def test_the_last_free_hole(self):
        table = Table(loom_made(2, [[0, 1]]))
        self.assertIsNone(table.take(1))
        self.assertEqual(table.take(0), "moth")
        self.assertEqual(table.free(), [])
        table = Table(loom_made(1, [[0]]))
        self.assertEqual(table.take(0), "weaver")
        self.assertEqual(told_of(table), ("moth", [0], [0], [], [], ((),), "weaver"))

    def test_like_ribbons(self):
        table = Table(loom_made(3, [[0, 1], [0, 1], [2]]), "moth")
        self.assertEqual(table.rest(), ((0, 1), (0, 1), (2,)))
        table.take(2)
        table.take(1)
        self.assertEqual(table.rest(), ((0,), (0,)))
        self.assertEqual(table.take(0), "moth")

    def walk(self, table, loom, first, deeds):
        """All plays from here on, each deed taken back behind it."""
        self.check_table(table, loom, first, deeds)
        if table.winner() is not None:
            return 1
        plays = 0
        for hole in table.free():
            told = table.take(hole)
            self.assertEqual(told, due_of(loom, first, deeds + [hole])[-1])
            plays += self.walk(table, loom, first, deeds + [hole])
            self.assertEqual(table.back(), hole)
            self.check_table(table, loom, first, deeds)
        return plays

    def test_all_plays_on_small_looms(self):
        for ribbons in ([[0]], [[0, 1]], [[0], [1]], [[0, 1], [1, 2], [0, 2]], [[0, 1], [2, 3]], [[0, 1, 2], [3]],
                        [[0, 1, 2, 3]], [[1], [1]], [[3]]):
            for first in HANDS:
                loom = loom_made(4, ribbons)
                self.assertGreater(self.walk(Table(loom, first), loom, first, []), 0)

    def test_plays_on_large_looms(self):
        chance = random.Random(26)
        for _ in range(15):
            count = chance.randint(6, 60)
            ribbons = [chance.sample(range(count), chance.randint(2, 6)) for _ in range(chance.randint(1, 60))]
            loom = loom_made(count, ribbons)
            first = chance.choice(HANDS)
            table, deeds = Table(loom, first), []
            while table.winner() is None:
                deeds.append(chance.choice(table.free()))
                table.take(deeds[-1])
                self.check_table(table, loom, first, deeds)
            while deeds:
                self.assertEqual(table.back(), deeds.pop())
                self.check_table(table, loom, first, deeds)


class RefusalsTest(TableTest):
    def test_what_is_no_hole_of_the_loom(self):
        table = Table(loom_made(5, [[0, 1], [2, 3]]))
        for hole in NO_HOLES + [5, 6, 59]:
            self.check_refused(table, hole, NoHole)
        table.take(0)
        for hole in NO_HOLES + [5]:
            self.check_refused(table, hole, NoHole)
        table.take(4)

    def test_a_truth_is_no_hole_also_where_the_hole_is_taken(self):
        table = Table(loom_made(5, [[0, 1], [2, 3]]))
        table.take(1)
        self.check_refused(table, True, NoHole)
        table.take(0)
        self.check_refused(table, False, NoHole)

    def test_a_hole_that_is_taken(self):
        table = Table(loom_made(6, [[0, 1], [2, 3]]))
        table.take(0)
        self.check_refused(table, 0, Taken)
        table.take(5)
        self.check_refused(table, 0, Taken)
        self.check_refused(table, 5, Taken)
        table.back()
        table.take(5)

    def test_over_comes_first(self):
        for first, last in (("weaver", "weaver"), ("moth", "moth")):
            table = Table(loom_made(3, [[0]]), first)
            self.assertEqual(table.take(0), last)
            for hole in NO_HOLES + [0, 1, 2, 3]:
                self.check_refused(table, hole, Over)
            self.assertEqual(table.back(), 0)
            self.check_refused(table, 3, NoHole)
            self.assertIsNone(table.take(1))

    def test_no_deed_to_take_back(self):
        table = Table(loom_made(3, [[0, 1]]), "moth")
        before = told_of(table)
        for _ in range(2):
            with self.assertRaises(NoDeed):
                table.back()
            self.assertEqual(told_of(table), before)
        table.take(2)
        self.assertEqual(table.back(), 2)
        with self.assertRaises(NoDeed):
            table.back()
        self.assertEqual(told_of(table), before)

    def test_each_is_a_loom_error(self):
        table = Table(loom_made(3, [[0, 1]]))
        with self.assertRaises(LoomError):
            table.take(3)
        with self.assertRaises(LoomError):
            table.back()


class BackTest(TableTest):
    def test_taken_back_where_somebody_has_won(self):
        loom = loom_made(4, [[0, 1], [0, 2]])
        table = Table(loom)
        for hole in (0, 1, 2):
            table.take(hole)
        self.assertEqual(table.winner(), "weaver")
        self.assertEqual(table.back(), 2)
        self.assertEqual(told_of(table), ("weaver", [0, 1], [0], [1], [2, 3], ((2,),), None))
        self.assertIsNone(table.take(3))
        self.assertEqual(table.take(2), "moth")
        self.assertEqual(table.back(), 2)
        self.assertEqual(told_of(table), ("moth", [0, 1, 3], [0, 3], [1], [2], ((2,),), None))

    def test_another_deed_behind_it(self):
        table = Table(loom_made(4, [[0, 1], [2, 3]]), "moth")
        table.take(0)
        table.take(2)
        self.assertEqual(table.back(), 2)
        self.assertEqual(table.back(), 0)
        table.take(3)
        table.take(0)
        self.assertEqual(told_of(table), ("moth", [3, 0], [0], [3], [1, 2], ((1,),), None))


class OwnTest(TableTest):
    def test_two_tables_of_one_loom(self):
        loom = loom_made(4, [[0, 1], [2, 3]])
        one, two = Table(loom), Table(loom, "moth")
        one.take(0)
        self.assertEqual(told_of(two), due_of(loom, "moth", []))
        two.take(0)
        two.take(2)
        self.assertEqual(told_of(one), due_of(loom, "weaver", [0]))
        one.back()
        self.assertEqual(told_of(two), due_of(loom, "moth", [0, 2]))
        self.assertEqual(loom, (4, ((0, 1), (2, 3))))

    def test_lists_told_are_the_askers_own(self):
        loom = loom_made(6, [[0, 1], [2, 3]])
        table = Table(loom)
        for hole in (4, 0, 5):
            table.take(hole)
        due = due_of(loom, "weaver", [4, 0, 5])
        for ask in (table.deeds, table.knots, table.bites, table.free):
            told = ask()
            self.assertIs(type(told), list)
            told.append(3)
            told[0] = None
            self.assertEqual(told_of(table), due)
            told.clear()
            self.assertEqual(told_of(table), due)
        deeds = table.deeds()
        table.take(1)
        self.assertEqual(deeds, [4, 0, 5])

    def test_asking_changes_nothing(self):
        table = Table(loom_made(6, [[0, 1], [2, 3]]))
        table.take(0)
        before = told_of(table)
        for _ in range(3):
            self.assertEqual(told_of(table), before)


if __name__ == "__main__":
    unittest.main()
