import random
import unittest

from rowsmith.errors import NoRow, NoText, RowsmithError, TooMany
from rowsmith.tables import is_table
from rowsmith.tabletexts import read_table, shown_table
from samples import MOST, random_table, table

EACH_KIND = (
    ("reg", "mem"),
    (
        ("load", "reg", ("at", "mem"), 3),
        ("var", "mem", ("any",), 0),
        ("small", "reg", ("from", 0, 255), 1),
        ("large", "reg", ("from", 5, MOST), 1000),
        ("neg", "reg", ("turn", ("at", "reg")), 2),
        ("add", "reg", ("sum", ("at", "reg"), ("at", "mem")), 10),
        ("sub", "reg", ("less", ("any",), ("from", 7, 7)), 4),
        ("mad", "reg", ("sum", ("by", ("at", "reg"), ("at", "reg")), ("turn", ("turn", ("at", "mem")))), 5),
    ),
)
EACH_KIND_TEXT = "\n".join([
    "reg mem", "load reg 3 @mem", "var mem 0 ?", "small reg 1 0..255", "large reg 1000 5..1000000000000000000",
    "neg reg 2 (- @reg)", "add reg 10 (@reg + @mem)", "sub reg 4 (? - 7..7)",
    "mad reg 5 ((@reg * @reg) + (- (- @mem)))",
])
NAMES = [first + second for first in "abcdefg" for second in "abcdefg"]


class TestWritten(unittest.TestCase):
    def test_each_kind(self):
        self.assertTrue(is_table(EACH_KIND))
        self.assertEqual(shown_table(EACH_KIND), EACH_KIND_TEXT)
        self.assertEqual(read_table(EACH_KIND_TEXT), EACH_KIND)

    def test_one_tile(self):
        self.assertEqual(shown_table((("a",), (("t", "a", ("any",), 7),))), "a\nt a 7 ?")
        self.assertEqual(read_table("a\nt a 7 ?"), (("a",), (("t", "a", ("any",), 7),)))

    def test_forty_tiles_and_six_classes(self):
        full = table("abcdef", *[("abcdef"[k % 6], ("turn", ("at", "f")), k) for k in range(40)])
        self.assertTrue(is_table(full))
        self.assertEqual(len(shown_table(full).split("\n")), 41)
        self.assertEqual(read_table(shown_table(full)), full)

    def test_random_tables(self):
        chance = random.Random(5)
        for step in range(100):
            some = random_table(chance, 12)
            self.assertEqual(read_table(shown_table(some)), some)


class TestNoRow(unittest.TestCase):
    def wrong(self, text, row):
        with self.assertRaises(NoRow) as caught:
            read_table(text)
        self.assertEqual(caught.exception.row, row, text)

    def wrong_tile(self, text):
        """The row is wrong wherever it stands, and the first wrong one is told."""
        self.wrong("a b\n" + text, 1)
        self.wrong("a b\ngood a 1 ?\nfine b 0 @a\n" + text, 3)
        self.wrong("a b\ngood a 1 ?\n" + text + "\nfine b 0 @a", 2)
        self.wrong("a b\ngood a 1 ?\n" + text + "\n" + text + "\n", 2)

    def right_tile(self, text):
        self.assertTrue(is_table(read_table("a b\n" + text)))

    def test_kinds_of_refusal(self):
        for text in ("", "a\nb"):
            with self.assertRaises(NoRow) as caught:
                read_table(text)
            for above in (RowsmithError, ValueError):
                self.assertIsInstance(caught.exception, above)
            for other in (NoText, TooMany):
                self.assertNotIsInstance(caught.exception, other)

    def test_classes(self):
        for row in ("", " ", "a a", "a b a", "a  b", " a", "a ", "A", "a1", "abcdefghi", "a,b", "a b c d e f g", "1",
                    "@a", "?"):
            self.wrong(row + "\nt a 1 ?", 0)
            self.wrong(row, 0)
        for row in ("a", "a b", "a b c d e f", "a abcdefgh"):
            self.assertEqual(read_table(row + "\nt a 1 ?")[0], tuple(row.split()))

    def test_classes_alone(self):
        self.wrong("a", 1)
        self.wrong("a b c", 1)
        self.wrong("a\n", 1)
        self.wrong("", 0)
        self.wrong("\n", 0)

    def test_names(self):
        self.wrong("a\nt a 1 ?\nt a 2 ?", 2)
        self.wrong("a\nt a 1 ?\nu a 1 ?\nv a 1 ?\nt a 1 0..1\nu a 1 ?", 4)
        for row in ("A a 1 ?", "abcdefghi a 1 ?", "t1 a 1 ?", " a 1 ?", "good c 1 ?"):
            self.wrong_tile(row)
        self.right_tile("a a 1 ?")

    def test_classes_of_tiles(self):
        for row in ("t c 1 ?", "t A 1 ?", "t  1 ?", "t ab 1 ?", "t a 1 (- @c)", "t a 1 @", "t a 1 @A", "t a 1 (@a + @)",
                    "t a 1 @abcdefghi", "t a 1 @a1"):
            self.wrong_tile(row)

    def test_prices(self):
        for price in ("1001", "01", "00", "-1", "+1", "1.0", "", "a", "10000", "9" * 30, "1,000", "0x1"):
            self.wrong_tile("t a " + price + " ?")
        for price in ("0", "1", "999", "1000"):
            self.right_tile("t a " + price + " ?")

    def test_stretches(self):
        for leaf in ("1..0", "5", "5..", "..5", "5.6", "5...6", "05..6", "5..06", "5 ..6", "5.. 6", "-1..5", "0..a",
                     "0.." + str(MOST + 1), str(MOST + 1) + ".." + str(MOST + 1), "0..0..0", "1-2", str(MOST) + "..0"):
            self.wrong_tile("t a 1 " + leaf)
            self.wrong_tile("t a 1 (- " + leaf + ")")
        for leaf in ("0..0", "0.." + str(MOST), str(MOST) + ".." + str(MOST), "3..10"):
            self.right_tile("t a 1 " + leaf)
            self.right_tile("t a 1 (@a * " + leaf + ")")

    def test_bounds_of_patterns(self):
        self.right_tile("t a 1 (((? + ?) + (? + ?)) + ?)")
        self.wrong_tile("t a 1 (((? + ?) + (? + ?)) + (- ?))")
        self.right_tile("t a 1 (- (- (- (- ?))))")
        self.wrong_tile("t a 1 (- (- (- (- (- ?)))))")
        self.right_tile("t a 1 ((@a + @b) * (@a + @b))")
        self.wrong_tile("t a 1 (((@a + @b) * (@a + @b)) - @a)")
        self.wrong_tile("t a 1 " + "(- " * 200 + "?" + ")" * 200)
        self.wrong_tile("t a 1 " + "(" * 200 + "?" + " + ?)" * 200)

    def test_passes(self):
        self.wrong_tile("t a 1 @a")
        self.wrong_tile("t b 0 @b")
        self.right_tile("t a 1 @b")
        self.right_tile("t a 1 (- @a)")

    def test_patterns(self):
        for pattern in ("a", "x", "(?)", "(- ?", "(-?)", "- ?", "(? + ?))", "(? +?)", "(?+ ?)", "(? / ?)", "? ?", "??",
                        "@ a", "(? + ? + ?)", "()", "(+ ?)", "( ? + ?)", "(? + ? )"):
            self.wrong_tile("t a 1 " + pattern)

    def test_blanks_and_fields(self):
        for row in ("t a 1", "t a", "t", "t a ?", " t a 1 ?", "t  a 1 ?", "t a  1 ?", "t a 1  ?", "t a 1 ? ", "t a 1 ",
                    "t a ? 1", "t a 1 ? ?", "a t 1 ?", "t,a,1,?", "t a 1 (?  + ?)"):
            self.wrong_tile(row)

    def test_rows_without_signs(self):
        self.wrong_tile("")
        self.wrong("a\nt a 1 ?\n", 2)
        self.wrong("a\n\nt a 1 ?", 1)
        self.wrong("a\nt a 1 ?\n\n", 2)
        self.wrong("\na\nt a 1 ?", 0)

    def test_forty_first_tile(self):
        rows = [name + " a 1 ?" for name in NAMES]
        self.assertEqual(len(read_table("\n".join(["a"] + rows[:40]))[1]), 40)
        self.wrong("\n".join(["a"] + rows[:41]), 41)
        self.wrong("\n".join(["a"] + rows), 41)
        self.wrong("\n".join(["a"] + rows[:40] + [""]), 41)
        self.wrong("\n".join(["a"] + rows[:39] + ["", rows[40]]), 40)

    def test_long_texts(self):
        self.wrong("a " * 9999, 0)
        self.wrong("\n" * 20000, 0)
        self.wrong("a" + "\n" * 19999, 1)
        self.wrong("a\nt a 1 " + "(? + " * 3900, 1)


if __name__ == "__main__":
    unittest.main()
