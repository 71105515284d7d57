"""Pages: plays written and read (points 2, 25, 26, 33)."""

import random
import unittest

from papers import HANDS
from plays import any_table, told_of

from mothloom.errors import LoomError, NoPage
from mothloom.looms import loom_made
from mothloom.pages import page_read, page_written
from mothloom.tables import Table

PAGE = "holes 4\nribbon 0 1\nribbon 2 3\nfirst weaver\ntake 0\ntake 1"


def played(count, ribbons, opener, deeds):
    table = Table(loom_made(count, ribbons), opener)
    for hole in deeds:
        table.take(hole)
    return table


class WrittenTest(unittest.TestCase):
    def check(self, table, due):
        before = told_of(table)
        text = page_written(table)
        self.assertIs(type(text), str)
        self.assertEqual(text, due)
        self.assertEqual(page_written(table), due)
        self.assertEqual(told_of(table), before)

    def test_an_ordinary_page(self):
        self.check(played(4, [[0, 1], [2, 3]], "weaver", [0, 1]), PAGE)

    def test_no_ribbons_and_no_deeds(self):
        self.check(played(0, [], "weaver", []), "holes 0\nfirst weaver")
        self.check(played(60, [], "moth", []), "holes 60\nfirst moth")
        self.check(played(3, [[2]], "moth", []), "holes 3\nribbon 2\nfirst moth")

    def test_the_looms_order_and_rising_holes(self):
        table = played(60, [[10, 9, 2], [1], [59, 0], [2, 10, 9], [1, 0]], "moth", [11, 59, 7])
        self.check(table, "holes 60\nribbon 0 1\nribbon 0 59\nribbon 1\nribbon 2 9 10\nribbon 2 9 10\n"
                          "first moth\ntake 11\ntake 59\ntake 7")

    def test_where_somebody_has_won(self):
        self.check(played(2, [[0]], "weaver", [0]), "holes 2\nribbon 0\nfirst weaver\ntake 0")
        self.check(played(2, [[0]], "moth", [0]), "holes 2\nribbon 0\nfirst moth\ntake 0")

    def test_deeds_taken_back_are_not_written(self):
        table = played(4, [[0, 1], [2, 3]], "weaver", [0, 1, 3])
        table.back()
        self.check(table, PAGE)


class ReadTest(unittest.TestCase):
    def check(self, text, count, ribbons, opener, deeds):
        table = page_read(text)
        self.assertIs(type(table), Table)
        self.assertEqual(told_of(table), told_of(played(count, ribbons, opener, deeds)))
        self.assertEqual(page_written(table), page_written(played(count, ribbons, opener, deeds)))

    def test_an_ordinary_page(self):
        self.check(PAGE, 4, [[0, 1], [2, 3]], "weaver", [0, 1])

    def test_either_hand_first(self):
        self.check("holes 4\nribbon 0 1\nfirst moth\ntake 3\ntake 0", 4, [[0, 1]], "moth", [3, 0])
        self.check("holes 4\nribbon 0 1\nfirst weaver\ntake 3\ntake 0", 4, [[0, 1]], "weaver", [3, 0])

    def test_no_ribbons_no_deeds(self):
        for opener in HANDS:
            self.check(f"holes 0\nfirst {opener}", 0, [], opener, [])
            self.check(f"holes 60\nfirst {opener}", 60, [], opener, [])
            self.check(f"holes 1\nribbon 0\nfirst {opener}", 1, [[0]], opener, [])

    def test_any_order(self):
        self.check("holes 12\nribbon 11 3 0\nribbon 2\nribbon 0 11 3\nribbon 1 0\nfirst moth\ntake 10",
                   12, [[0, 1], [0, 3, 11], [0, 3, 11], [2]], "moth", [10])

    def test_up_to_a_win(self):
        self.check("holes 2\nribbon 0\nfirst weaver\ntake 0", 2, [[0]], "weaver", [0])
        self.check("holes 2\nribbon 0\nfirst weaver\ntake 1\ntake 0", 2, [[0]], "weaver", [1, 0])

    def test_sixty_holes_and_ribbons(self):
        rows = ["holes 60"] + [f"ribbon {hole} {59 - hole}" for hole in range(60)] + ["first weaver", "take 59"]
        self.check("\n".join(rows), 60, [[hole, 59 - hole] for hole in range(60)], "weaver", [59])
        all_holes = " ".join(str(hole) for hole in range(59, -1, -1))
        self.check(f"holes 60\nribbon {all_holes}\nfirst moth", 60, [list(range(60))], "moth", [])

    def test_a_new_table_each_time(self):
        one, two = page_read(PAGE), page_read(PAGE)
        one.take(3)
        self.assertEqual(page_written(two), PAGE)
        two.back()
        self.assertEqual(one.deeds(), [0, 1, 3])

    def test_written_and_read_back(self):
        chance = random.Random(33)
        for _ in range(200):
            table = any_table(chance, chance.randint(1, 60), 60, (1, 2, 3, 5, 9))
            while table.winner() is None and chance.random() < 0.8:
                table.take(chance.choice(table.free()))
            text = page_written(table)
            again = page_read(text)
            self.assertEqual(told_of(again), told_of(table))
            self.assertEqual(page_written(again), text)

    def test_read_in_any_order_and_written_in_the_looms(self):
        chance = random.Random(34)
        for _ in range(100):
            table = any_table(chance, chance.randint(1, 60), 30, (1, 2, 3, 5, 9))
            text = page_written(table)
            rows = [row.split(" ") for row in text.split("\n")]
            ribbons = [row for row in rows if row[0] == "ribbon"]
            for row in ribbons:
                row[1:] = chance.sample(row[1:], len(row) - 1)
            rows[1:1 + len(ribbons)] = chance.sample(ribbons, len(ribbons))
            self.assertEqual(page_written(page_read("\n".join(" ".join(row) for row in rows))), text)


class RefusedTest(unittest.TestCase):
    def check(self, *texts):
        for text in texts:
            with self.subTest(text=text):
                with self.assertRaises(NoPage) as taken:
                    page_read(text)
                self.assertIs(type(taken.exception), NoPage)
                self.assertIsInstance(taken.exception, LoomError)

    def test_an_empty_text(self):
        self.check("", " ", "\n", "\n\n")

    def test_numbers(self):
        for word in ("00", "01", "04", "004", "040", "100", "+1", "-1", "-0", "1.0", "1e1", "0x1", "1_0", "a", "", "-",
                     "\u0661", "\u00b2", "\uff11", "1\u0661", "\u06611", "\U0001d7d9", "1,", "1\t", "\t1", "1\r",
                     "\u00a01", "1\u00a0", "1\u2003", "1\x00", "1\x0b", "1\x0c", "\u200b1", "1\u0301", "one",
                     "None", "True"):
            self.check(f"holes {word}\nfirst weaver", f"holes 60\nribbon {word}\nfirst weaver",
                       f"holes 60\nribbon 5 {word}\nfirst weaver", f"holes 60\nribbon {word} 5\nfirst weaver",
                       f"holes 60\nribbon 5 6\nfirst weaver\ntake {word}")

    def test_blanks(self):
        good_rows = PAGE.split("\n")
        for place, row in enumerate(good_rows):
            for wrong in (" " + row, row + " ", row.replace(" ", "  ", 1), row.replace(" ", "\t", 1), "\t" + row,
                          row.replace(" ", "\u00a0", 1), row + "\t", row + "\r", row.replace(" ", "", 1), row + "\x0b",
                          row.replace(" ", "\u2003", 1), row.replace(" ", "\x0c", 1), "\ufeff" + row, row + "\u200b"):
                self.check("\n".join(good_rows[:place] + [wrong] + good_rows[place + 1:]))
        page_read(PAGE)

    def test_line_ends(self):
        self.check(PAGE + "\n", "\n" + PAGE, PAGE.replace("\n", "\n\n", 1), PAGE.replace("\n", "\r\n"),
                   PAGE.replace("\n", "\r"), PAGE.replace("\n", "\u2028"), PAGE.replace("\n", "\x0b"),
                   PAGE.replace("\n", "\x85"), PAGE.replace("\n", "\x0c"), PAGE.replace("\n", "\x1e"), PAGE + "\r\n",
                   PAGE.replace("\n", " "), PAGE + "\n\n", PAGE + "\n ")
        for place in range(1, 6):
            rows = PAGE.split("\n")
            self.check("\n".join(rows[:place] + [""] + rows[place:]), "\n".join(rows[:place] + [" "] + rows[place:]))

    def test_rows_missing(self):
        self.check("first weaver", "holes 4", "holes 4\nribbon 0 1", "ribbon 0 1\nfirst weaver", "holes 4\ntake 0",
                   "holes 4\nribbon 0 1\ntake 0", "take 0", "ribbon 0 1")

    def test_rows_twice(self):
        self.check("holes 4\nholes 4\nfirst weaver", "holes 4\nribbon 0 1\nholes 4\nfirst weaver",
                   "holes 4\nribbon 0 1\nfirst weaver\nfirst weaver", "holes 4\nribbon 0 1\nfirst weaver\nfirst moth",
                   "holes 4\nribbon 0 1\nfirst weaver\nholes 4",
                   "holes 4\nribbon 0 1\nfirst weaver\ntake 3\nfirst weaver", PAGE + "\n" + PAGE)

    def test_rows_out_of_order(self):
        self.check("first weaver\nholes 4\nribbon 0 1", "ribbon 0 1\nholes 4\nfirst weaver",
                   "holes 4\nfirst weaver\nribbon 0 1", "holes 4\nribbon 0 1\ntake 0\nfirst weaver",
                   "holes 4\ntake 0\nribbon 0 1\nfirst weaver", "take 0\nholes 4\nribbon 0 1\nfirst weaver",
                   "holes 4\nribbon 0 1\nfirst weaver\ntake 0\nribbon 2 3",
                   "holes 4\nribbon 0 1\nfirst weaver\nribbon 2 3\ntake 0")

    def test_words(self):
        self.check("Holes 4\nfirst weaver", "hole 4\nfirst weaver", "holes 4\nribbons 0\nfirst weaver",
                   "holes 4\nRIBBON 0\nfirst weaver", "holes 4\nfirst", "holes 4\nfirst Weaver", "holes 4\nfirst 0",
                   "holes 4\nfirst weavers", "holes 4\nfirst weaver moth", "holes 4\nfirst moth moth",
                   "holes\nfirst weaver", "holes 4 4\nfirst weaver", "4\nfirst weaver", "holes 4\n0 1\nfirst weaver",
                   "holes 4\nfirst None",
                   "holes 4\nribbon 0 1\nfirst weaver\ntake", "holes 4\nribbon 0 1\nfirst weaver\ntake 0 1",
                   "holes 4\nribbon 0 1\nfirst weaver\nTake 0", "holes 4\nribbon 0 1\nfirst weaver\n0",
                   "holes 4\nribbon 0 1\nfirst weaver\nweaver 0", "holes 4\nweaver", "holes 4\nlast weaver",
                   "holes 4\nribbon 0 1\nfirst weaver\nknot 0")

    def test_the_loom(self):
        self.check("holes 61\nfirst weaver", "holes 99\nfirst weaver", "holes 4\nribbon\nfirst weaver",
                   "holes 4\nribbon \nfirst weaver", "holes 4\nribbon 4\nfirst weaver",
                   "holes 4\nribbon 0 4\nfirst moth", "holes 60\nribbon 60\nfirst weaver",
                   "holes 4\nribbon 1 1\nfirst weaver", "holes 0\nribbon 0\nfirst moth",
                   "holes 4\nribbon 1 2 1\nfirst weaver", "holes 4\nribbon 0 1\nribbon\nfirst weaver")
        self.check("holes 60\n" + "ribbon 0\n" * 61 + "first weaver")
        page_read("holes 60\n" + "ribbon 0\n" * 60 + "first weaver")

    def test_deeds(self):
        begin = "holes 4\nribbon 0 1\nribbon 2 3\nfirst weaver\n"
        self.check(begin + "take 0\ntake 0", begin + "take 0\ntake 1\ntake 0", begin + "take 4", begin + "take 59",
                   begin + "take 60", begin + "take 0\ntake 2\ntake 1\ntake 3",
                   begin + "take 0\ntake 1\ntake 2\ntake 3\ntake 0", "holes 4\nfirst weaver\ntake 0",
                   "holes 0\nfirst moth\ntake 0", "holes 4\nribbon 1\nfirst moth\ntake 1\ntake 0")
        page_read(begin + "take 0\ntake 2\ntake 1")

    def test_a_page_cut_short_or_with_a_sign_more(self):
        whole = {PAGE, PAGE[:-7], PAGE[:-14]}
        for end in range(len(PAGE)):
            if PAGE[:end] not in whole:
                self.check(PAGE[:end])
        for place in range(len(PAGE) + 1):
            for sign in " \n-x\u0660":
                self.check(PAGE[:place] + sign + PAGE[place:])


if __name__ == "__main__":
    unittest.main()
