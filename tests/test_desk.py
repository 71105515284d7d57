"""The desk, and the promise over the whole program (points 2, 3, 35)."""

import collections
import itertools
import random
import unittest

from papers import HANDS, OTHER, any_paper, keeps_the_bounds, won_paper, wins
from plays import any_table, knots_from, lines, others

from mothloom.checking import good
from mothloom.desk import let_by, told
from mothloom.errors import LoomError, NoPage, NoPaper
from mothloom.following import knots_needed
from mothloom.looms import loom_made
from mothloom.pages import page_read, page_written
from mothloom.papertexts import paper_read, paper_written
from mothloom.players import Follower, play_out
from mothloom.settling import is_small, settled
from mothloom.tables import Table

PAGE = "holes 4\nribbon 0 1\nribbon 0 2\nfirst weaver"
NO_PAGES = ("", "holes 4", PAGE + "\n", PAGE + "\ntake 4", PAGE + "\ntake 0\ntake 0", "holes 61\nfirst moth", "bare",
            "holes 4\nribbon\nfirst weaver", PAGE.replace("\n", "\r\n"), PAGE + " ")
NO_PAPERS = ("", "bares", "knot 0", "knot 0  whole", "knot 60 whole", "fewer 1 2 1 0 whole", "knot 0 whole whole",
             "knot - " * 30 + "whole", "whole\n", "holes 4")


class DeskTest(unittest.TestCase):
    def hand_and_paper(self, row):
        hand, blank, written = row.partition(" ")
        self.assertEqual(blank, " ")
        self.assertIn(hand, HANDS)
        return hand, written

    def check_settled(self, text):
        """The row names a hand and a written paper that is let by for that hand alone."""
        row = told(text)
        self.assertIs(type(row), str)
        self.assertNotIn("\n", row)
        hand, written = self.hand_and_paper(row)
        self.assertIs(let_by(text, hand, written), True)
        self.assertIs(let_by(text, OTHER[hand], written), False)
        paper = paper_read(written)
        self.assertTrue(keeps_the_bounds(paper))
        self.assertEqual(told(text), row)
        return hand, paper


class ToldTest(DeskTest):
    def test_won(self):
        self.assertEqual(told("holes 0\nfirst weaver"), "won moth")
        self.assertEqual(told("holes 60\nfirst moth"), "won moth")
        self.assertEqual(told("holes 2\nribbon 0\nfirst weaver\ntake 0"), "won weaver")
        self.assertEqual(told("holes 2\nribbon 0\nfirst moth\ntake 0"), "won moth")
        self.assertEqual(told(PAGE + "\ntake 0\ntake 1\ntake 2"), "won weaver")
        self.assertEqual(told(PAGE + "\ntake 3\ntake 0"), "won moth")
        self.assertEqual(told("holes 3\nribbon 0 1\nribbon 2\nfirst weaver\ntake 2"), "won weaver")

    def test_settled_by_either_hand(self):
        self.assertEqual(self.check_settled(PAGE)[0], "weaver")
        self.assertEqual(self.check_settled(PAGE.replace("weaver", "moth"))[0], "moth")
        self.assertEqual(self.check_settled(PAGE + "\ntake 0")[0], "weaver")
        self.assertEqual(self.check_settled(PAGE + "\ntake 1")[0], "moth")
        self.assertEqual(self.check_settled(PAGE + "\ntake 1\ntake 2")[0], "weaver")
        self.assertEqual(self.check_settled("holes 4\nribbon 0 1\nribbon 2 3\nfirst weaver")[0], "moth")
        self.assertEqual(self.check_settled("holes 4\nribbon 0 1\nribbon 2 3\nfirst moth")[0], "moth")
        self.assertEqual(self.check_settled("holes 4\nribbon 1\nribbon 2\nfirst moth")[0], "weaver")

    def test_a_row_as_a_whole(self):
        self.assertEqual(told("holes 1\nribbon 0\nfirst moth"), "moth " + paper_written(settled(((0,),), "moth")[1]))
        for row in (told(PAGE), told(PAGE + "\ntake 1")):
            self.assertEqual(row, " ".join(row.split()))

    def test_open_only_where_it_is_not_settled(self):
        chance = random.Random(35)
        seen = collections.Counter()
        for _ in range(150):
            table = any_table(chance, chance.choice((9, 20, 60)), chance.choice((14, 40, 60)), (3, 3, 4))
            text, rest, turn = page_written(table), table.rest(), table.turn()
            row = told(text)
            if row == "open":
                self.assertFalse(is_small(rest))
                self.assertIsNone(settled(rest, turn))
            else:
                self.check_settled(text)
                self.assertIsNotNone(settled(rest, turn))
            seen[row == "open"] += 1
        self.assertEqual(len(seen), 2)

    def test_no_page(self):
        for text in NO_PAGES:
            with self.subTest(text=text):
                with self.assertRaises(NoPage) as taken:
                    told(text)
                self.assertIsInstance(taken.exception, LoomError)


class LetByTest(DeskTest):
    def test_papers_that_are_good_and_others(self):
        for written, hand, due in (
            ("knot 0 cases 2 1 2 whole 2 1 whole", "weaver", True),
            ("knot 0 cases 2 1 2 whole 2 1 whole", "moth", False),
            ("knot 1 cases 2 1 2 whole 2 1 whole", "weaver", False),
            ("weight", "weaver", True), ("weight", "moth", False), ("bare", "moth", False), ("whole", "weaver", False),
            ("fewer 2 2 0 1 2 0 2 weight", "weaver", True), ("pairs 2 0 1 0 2", "moth", False),
            ("cases 0", "moth", False),
        ):
            with self.subTest(written=written, hand=hand):
                self.assertIs(let_by(PAGE, hand, written), due)

    def test_the_turn_and_the_deeds_count(self):
        self.assertIs(let_by(PAGE.replace("weaver", "moth"), "moth", "bite 0 bare"), True)
        self.assertIs(let_by(PAGE, "moth", "bite 0 bare"), False)
        self.assertIs(let_by(PAGE + "\ntake 3", "moth", "bite 0 bare"), True)
        self.assertIs(let_by(PAGE + "\ntake 1", "moth", "bite 0 bare"), True)
        self.assertIs(let_by(PAGE + "\ntake 0", "moth", "bite 1 bare"), False)
        self.assertIs(let_by(PAGE + "\ntake 0", "weaver", "cases 2 1 2 whole 2 1 whole"), True)
        self.assertIs(let_by(PAGE + "\ntake 0\ntake 1", "weaver", "knot 2 whole"), True)
        self.assertIs(let_by(PAGE + "\ntake 0\ntake 2", "weaver", "knot 2 whole"), False)

    def test_where_somebody_has_won(self):
        self.assertIs(let_by("holes 2\nribbon 0\nfirst weaver\ntake 0", "weaver", "whole"), True)
        self.assertIs(let_by("holes 2\nribbon 0\nfirst weaver\ntake 0", "moth", "bare"), False)
        self.assertIs(let_by("holes 2\nribbon 0\nfirst moth\ntake 0", "moth", "bare"), True)
        self.assertIs(let_by("holes 2\nfirst moth", "weaver", "whole"), False)

    def test_no_page_comes_first(self):
        for text, hand, written in itertools.product(NO_PAGES, HANDS, ("whole", "weight") + NO_PAPERS):
            with self.subTest(text=text, written=written):
                with self.assertRaises(NoPage):
                    let_by(text, hand, written)

    def test_no_paper(self):
        for text, hand, written in itertools.product((PAGE, "holes 0\nfirst moth"), HANDS, NO_PAPERS):
            with self.subTest(text=text, written=written):
                with self.assertRaises(NoPaper):
                    let_by(text, hand, written)


class PromiseTest(DeskTest):
    """Point 3: who plays by a paper that is let by wins."""

    def check_lines(self, text, hand, paper):
        """Against every line of play at the table read from the page."""
        table = page_read(text)
        begun, rest = len(table.deeds()), table.rest()
        needed = knots_needed(paper, rest) if hand == "weaver" else 0
        for end in lines(table, hand, Follower(hand, rest, table.turn(), paper)):
            self.assertEqual(end.winner(), hand)
            if hand == "weaver":
                self.assertLessEqual(knots_from(end, begun), needed)

    def check_players(self, chance, text, hand, paper):
        for other in others(chance, OTHER[hand]):
            table = page_read(text)
            begun, rest = len(table.deeds()), table.rest()
            sides = {hand: Follower(hand, rest, table.turn(), paper), OTHER[hand]: other}
            self.assertEqual(play_out(table, sides["weaver"], sides["moth"]), hand)
            if hand == "weaver":
                self.assertLessEqual(knots_from(table, begun), knots_needed(paper, rest))

    def test_small_looms(self):
        chance = random.Random(3)
        seen = collections.Counter()
        for _ in range(250):
            table = any_table(chance, chance.randint(1, 7), 6, chance.choice(((1, 2, 2, 3), (2, 2, 3), (2, 3, 3))))
            text = page_written(table)
            if told(text) != "open":
                hand, paper = self.check_settled(text)
                self.assertEqual(hand, wins(table.rest(), table.turn()))
                self.check_lines(text, hand, paper)
                self.check_players(chance, text, hand, paper)
                seen[hand, table.turn()] += 1
            else:
                self.assertFalse(is_small(table.rest()))
        self.assertEqual(len(seen), 4)
        self.assertGreater(min(seen.values()), 10)

    def test_each_small_page(self):
        strips = ((0,), (0, 1), (0, 1, 2), (1, 2), (2,), (0, 2))
        for count in range(4):
            for ribbons in itertools.combinations_with_replacement(strips, count):
                for opener in HANDS:
                    text = page_written(Table(loom_made(4, ribbons), opener))
                    row = told(text)
                    if count == 0:
                        self.assertEqual(row, "won moth")
                    else:
                        hand, paper = self.check_settled(text)
                        self.assertEqual(hand, wins(tuple(sorted(ribbons)), opener))
                        self.check_lines(text, hand, paper)

    def test_large_looms(self):
        chance = random.Random(4)
        seen = collections.Counter()
        for _ in range(150):
            sizes = chance.choice(((1, 2, 3), (2, 3, 4), (3, 4), (4, 5, 6), (6, 7, 8)))
            table = any_table(chance, chance.choice((8, 12, 30, 60)), chance.choice((6, 12, 25, 60)), sizes)
            text = page_written(table)
            if told(text) != "open":
                hand, paper = self.check_settled(text)
                self.check_players(chance, text, hand, paper)
                seen[hand, table.turn()] += 1
        self.assertEqual(len(seen), 4)

    def small_pieces(self, chance):
        """A page whose rest falls into many pieces of at most six holes."""
        names = chance.sample(range(60), 60)
        ribbons = []
        for begin in range(0, chance.choice((12, 36, 60)), 6):
            for _ in range(chance.randint(1, 4)):
                ribbons.append(chance.sample(names[begin:begin + 6], chance.choice((2, 3, 3, 4))))
        return page_written(Table(loom_made(60, ribbons), chance.choice(HANDS)))

    def test_many_small_pieces(self):
        chance = random.Random(5)
        seen = collections.Counter()
        for _ in range(40):
            text = self.small_pieces(chance)
            hand, paper = self.check_settled(text)
            self.check_players(chance, text, hand, paper)
            seen[hand] += 1
        self.assertEqual(len(seen), 2)

    def test_in_the_midst_of_a_play(self):
        chance = random.Random(6)
        for _ in range(8):
            table = page_read(self.small_pieces(chance))
            while table.winner() is None:
                hand, paper = self.check_settled(page_written(table))
                if is_small(table.rest()):
                    self.assertTrue(good(paper, table.rest(), table.turn(), hand))
                table.take(chance.choice(table.free()))
            self.assertEqual(told(page_written(table)), f"won {table.winner()}")

    def test_whatever_paper_is_let_by(self):
        chance = random.Random(7)
        let = collections.Counter()
        for _ in range(6000):
            table = any_table(chance, chance.randint(1, 4), 3)
            text, due = page_written(table), wins(table.rest(), table.turn())
            written = paper_written(any_paper(chance, 4, 3))
            for hand in HANDS:
                if let_by(text, hand, written):
                    self.assertEqual(hand, due)
                    self.check_lines(text, hand, paper_read(written))
                    let[hand] += 1
        self.assertGreater(min(let[hand] for hand in HANDS), 50)

    def test_never_papers_of_both_hands(self):
        chance = random.Random(8)
        for _ in range(150):
            table = any_table(chance, chance.randint(1, 5), 4)
            text, hand = page_written(table), wins(table.rest(), table.turn())
            written = [paper_written(any_paper(chance, 5, 3)) for _ in range(30)]
            written.append(paper_written(won_paper(chance, table.rest(), table.turn(), hand, 2)))
            self.assertTrue(let_by(text, hand, written[-1]))
            for text_of_paper in written:
                self.assertFalse(let_by(text, OTHER[hand], text_of_paper))


if __name__ == "__main__":
    unittest.main()
