"""Papers as words: written and read, or refused (points 2, 17, 34)."""

import random
import unittest

from papers import any_paper, deep_of, is_a_paper, papers_in, won_papers, words_in

from mothloom.errors import LoomError, NoPaper
from mothloom.papertexts import paper_read, paper_written

BARE = ("bare",)
WHOLE = ("whole",)
WEIGHT = ("weight",)

WRITTEN = (
    (BARE, "bare"),
    (WHOLE, "whole"),
    (WEIGHT, "weight"),
    (("pairs", ()), "pairs 0"),
    (("pairs", ((0, 59),)), "pairs 1 0 59"),
    (("pairs", ((7, 3), (10, 9), (4, 4))), "pairs 3 7 3 10 9 4 4"),
    (("bite", 0, BARE), "bite 0 bare"),
    (("bite", None, WEIGHT), "bite - weight"),
    (("knot", 59, WHOLE), "knot 59 whole"),
    (("knot", None, ("knot", 10, WHOLE)), "knot - knot 10 whole"),
    (("cases", ()), "cases 0"),
    (("cases", ((1, 2, WHOLE), (2, None, ("bite", 3, BARE)))), "cases 2 1 2 whole 2 - bite 3 bare"),
    (("cases", ((9, 8, BARE), (9, 0, BARE), (1, 9, BARE))), "cases 3 9 8 bare 9 0 bare 1 9 bare"),
    (("parts", ()), "parts 0"),
    (("parts", (((), BARE),)), "parts 1 0 bare"),
    (("parts", ((((0, 1), (2,)), WEIGHT), (((5,),), ("pairs", ((1, 2),))))),
     "parts 2 2 2 0 1 1 2 weight 1 1 5 pairs 1 1 2"),
    (("fewer", (), WHOLE), "fewer 0 whole"),
    (("fewer", ((),), WHOLE), "fewer 1 0 whole"),
    (("fewer", ((), (), (3,)), WHOLE), "fewer 3 0 0 1 3 whole"),
    (("fewer", ((0,), (0, 5), (0, 5), (1,)), ("fewer", ((58, 59),), WEIGHT)),
     "fewer 4 1 0 2 0 5 2 0 5 1 1 fewer 1 2 58 59 weight"),
    (("either", ((0,),), ("knot", 0, WHOLE), ((1, 2),), WEIGHT), "either 1 1 0 knot 0 whole 1 2 1 2 weight"),
    (("either", (), BARE, ((),), ("either", (), BARE, (), BARE)), "either 0 bare 1 0 either 0 bare 0 bare"),
)


def nested(deep):
    """A paper so deep, and its words."""
    paper, text = WHOLE, "whole"
    for _ in range(deep - 1):
        paper, text = ("knot", None, paper), "knot - " + text
    return paper, text


class WrittenTest(unittest.TestCase):
    def test_each_word(self):
        for paper, text in WRITTEN:
            with self.subTest(text=text):
                self.assertTrue(is_a_paper(paper))
                self.assertEqual(paper_written(paper), text)
                told = paper_read(text)
                self.assertEqual(told, paper)
                self.assertTrue(is_a_paper(told))
        self.assertEqual(len({word for paper, _ in WRITTEN for word in words_in(paper)}), 10)

    def check_there_and_back(self, paper):
        before = repr(paper)
        text = paper_written(paper)
        self.assertIs(type(text), str)
        self.assertEqual(repr(paper), before)
        told = paper_read(text)
        self.assertEqual(told, paper)
        self.assertEqual(repr(told), before)
        self.assertEqual(paper_written(told), text)

    def test_there_and_back(self):
        chance = random.Random(34)
        for count in (1, 3, 12, 60):
            for _ in range(300):
                self.check_there_and_back(any_paper(chance, count, 4))

    def test_good_papers_there_and_back(self):
        for paper, _, _, _ in won_papers(34, 300, 4):
            self.check_there_and_back(paper)

    def test_up_to_thirty_deep(self):
        for deep in (1, 2, 29, 30):
            paper, text = nested(deep)
            self.assertEqual(deep_of(paper), deep)
            self.assertEqual(paper_written(paper), text)
            self.assertEqual(paper_read(text), paper)

    def test_thirty_deep_by_each_word(self):
        wraps = (
            lambda paper: ("bite", 5, paper), lambda paper: ("knot", None, paper),
            lambda paper: ("fewer", ((1,),), paper),
            lambda paper: ("cases", ((1, 2, paper),)), lambda paper: ("parts", ((((3, 4),), paper),)),
            lambda paper: ("either", (), BARE, (), paper), lambda paper: ("either", (), paper, (), BARE),
            lambda paper: ("cases", ((1, 2, BARE), (1, None, paper))),
        )
        for wrap in wraps:
            paper = WEIGHT
            for _ in range(29):
                paper = wrap(paper)
            self.assertEqual(deep_of(paper), 30)
            self.check_there_and_back(paper)
            with self.assertRaises(NoPaper):
                paper_read(paper_written(wrap(paper)))

    def test_many_papers(self):
        rows = tuple((hole, None, ("cases", tuple((other, 0, BARE) for other in range(60)))) for hole in range(60))
        paper = ("cases", rows)
        self.assertEqual(papers_in(paper), 3661)
        self.check_there_and_back(paper)

    def test_more_than_four_thousand_papers_are_not_refused(self):
        rows = tuple((hole, None, ("cases", tuple((other, 0, BARE) for other in range(60)))) for hole in range(60))
        self.check_there_and_back(("either", (), ("cases", rows), (), ("cases", rows)))

    def test_counts_of_sixty(self):
        self.check_there_and_back(("pairs", ((58, 59),) * 60))
        self.check_there_and_back(("cases", tuple((hole, hole, BARE) for hole in range(60))))
        self.check_there_and_back(("parts", tuple((((hole,),), WEIGHT) for hole in range(60))))
        self.check_there_and_back(("fewer", (tuple(range(60)),) * 60, WHOLE))
        self.check_there_and_back(("fewer", ((),) * 60, WHOLE))


class RefusedTest(unittest.TestCase):
    def check(self, *texts):
        for text in texts:
            with self.subTest(text=text):
                with self.assertRaises(NoPaper) as taken:
                    paper_read(text)
                self.assertIs(type(taken.exception), NoPaper)
                self.assertIsInstance(taken.exception, LoomError)

    def test_an_empty_text(self):
        self.check("", " ", "\n", "  ")

    def test_unknown_words(self):
        self.check("hole", "Bare", "BARE", "weights", "0", "-", "None", "pair 0", "bare,", "moth", "open", "won",
                   "bite 0 bares", "knot 0 0", "cases 1 0 - no", "rest", "bite 0 -", "('bare',)", "weaver whole")

    def test_too_deep(self):
        for deep in (31, 32, 60, 2000):
            self.check(nested(deep)[1])

    def test_counts_beyond_sixty(self):
        for count in (61, 62, 99, 100):
            self.check(f"pairs {count}" + " 0 1" * count, f"cases {count}" + " 0 - bare" * count,
                       f"parts {count}" + " 0 bare" * count, f"fewer {count}" + " 0" * count + " whole",
                       f"either {count}" + " 0" * count + " whole 0 whole",
                       f"either 0 whole {count}" + " 0" * count + " whole")
        holes = " ".join(str(hole) for hole in range(61))
        self.check(f"fewer 1 61 {holes} whole", f"parts 1 1 61 {holes} bare")

    def test_holes_beyond_the_last(self):
        for hole in (60, 61, 99, 100):
            self.check(f"pairs 1 {hole} 0", f"pairs 1 0 {hole}", f"bite {hole} bare", f"knot {hole} whole",
                       f"cases 1 {hole} - bare", f"cases 1 0 {hole} bare", f"fewer 1 1 {hole} whole",
                       f"fewer 1 2 0 {hole} whole", f"parts 1 1 1 {hole} bare", f"either 1 1 {hole} whole 0 whole",
                       f"either 0 whole 1 1 {hole} whole")

    def test_numbers(self):
        for word in ("00", "01", "007", "+1", "-1", "-0", "--", "1.0", "1_0", "", "\u0661", "\u00b2", "\uff11",
                     "\u2212", "\u2013", "1\n", "\n1", "1\t", "1\r", "1\u00a0", "None", "a", "0x1", "1,"):
            self.check(f"pairs {word}", f"pairs {word} 0 1", f"pairs 1 {word} 5", f"pairs 1 5 {word}",
                       f"bite {word} bare", f"knot {word} whole", f"cases {word}", f"cases 1 {word} - bare",
                       f"cases 1 1 {word} bare", f"parts {word}", f"fewer {word} whole", f"fewer {word} 1 5 whole",
                       f"fewer 1 {word} 5 whole", f"fewer 1 1 {word} whole", f"either 0 bare {word} bare")

    def test_a_minus_sign_that_is_no_reply(self):
        self.check("pairs -", "pairs 1 - 0", "pairs 1 0 -", "cases -", "cases 1 - 0 bare", "cases 1 - - bare",
                   "parts -", "fewer - whole", "fewer 1 - whole", "fewer 1 1 - whole")

    def test_strips_out_of_order(self):
        self.check("fewer 1 2 1 0 whole", "fewer 1 2 5 5 whole", "fewer 1 3 0 2 1 whole", "fewer 1 3 0 0 1 whole",
                   "parts 1 1 2 10 9 bare", "either 1 2 1 0 whole 0 whole", "either 0 whole 1 2 1 0 whole",
                   "fewer 2 1 0 2 2 1 whole")

    def test_rests_out_of_order(self):
        self.check("fewer 2 1 1 1 0 whole", "fewer 2 1 0 0 whole", "fewer 2 2 0 5 1 0 whole", "fewer 2 1 1 2 0 5 whole",
                   "fewer 3 1 0 1 2 1 1 whole", "parts 1 2 1 10 1 9 bare", "either 2 1 1 1 0 whole 0 whole",
                   "either 0 whole 2 1 1 1 0 whole", "parts 2 0 bare 2 1 1 1 0 bare")
        self.assertEqual(paper_read("fewer 4 0 1 0 2 0 5 1 1 whole"), ("fewer", ((), (0,), (0, 5), (1,)), WHOLE))
        self.assertEqual(paper_read("fewer 2 1 9 1 10 whole"), ("fewer", ((9,), (10,)), WHOLE))

    def test_words_left_over_or_missing(self):
        for _, text in WRITTEN:
            words = text.split(" ")
            self.check(text + " bare", text + " 0", text + " -", text + " " + text)
            for place in range(1, len(words)):
                self.check(" ".join(words[:place]))

    def test_blanks(self):
        for _, text in WRITTEN:
            self.check(text + " ", " " + text, text + "\n", "\n" + text, text + "\t")
            for place in range(len(text)):
                if text[place] == " ":
                    for other in ("  ", "\n", "\t", "\u00a0", "\r\n", "_", " \n", "\u2003", "\x1f"):
                        self.check(text[:place] + other + text[place + 1:])


if __name__ == "__main__":
    unittest.main()
