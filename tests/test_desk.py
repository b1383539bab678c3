import random
import re
import unittest

from rowsmith.cells import need, thrifty
from rowsmith.classes import cheapest, led_to
from rowsmith.counts import how_many
from rowsmith.covers import is_cover, price
from rowsmith.desk import Desk
from rowsmith.errors import NoLine, NoRow, NoText, NotRight, TooMany
from rowsmith.gaps import gap
from rowsmith.labels import labels
from rowsmith.straight import straight
from rowsmith.tabletexts import read_table, shown_table
from rowsmith.trees import names_in, pieces, worth
from rowsmith.treetexts import read, shown
from rowsmith.webs import opened
from samples import MOST, PLAIN, bushy, check_refused, name, random_table, random_tree, table

ANY = ("any",)
R = ("at", "r")
TEXT = "reg mem\nload reg 2 @mem\nvar mem 0 ?\nadd reg 1 (@reg + @reg)\ninc reg 1 (@reg + 0..9)\nsub reg 4 (@reg - 1..1)"
BOTH = ("least", "count", "rows", "better")
SIGNS = [("r", ("turn", R), 1)] + [("r", (word, R, R), 2) for word in ("sum", "less", "by")]
EVERY = table("r", ("r", ANY, 3), ("r", ("from", 0, MOST), 4), *SIGNS)


def desk_with(the_table=None, tree=None):
    desk = Desk()
    if the_table is not None:
        desk.say("table\n" + the_table)
    if tree is not None:
        desk.say("tree " + tree)
    return desk


class Checked(unittest.TestCase):
    def refused(self, kind, desk, row):
        return check_refused(self, kind, desk.say, row)


class TestTableAndTree(Checked):
    def test_kept_and_told_anew(self):
        desk = Desk()
        self.assertEqual(desk.say("tree (a + 3)"), "ok")
        self.assertEqual(desk.say("show"), "(a + 3)")
        self.assertEqual(desk.say("tree ((- b) * 7)"), "ok")
        self.assertEqual(desk.say("show"), "((- b) * 7)")
        self.assertEqual(desk.say("table\n" + TEXT), "ok")
        self.assertEqual(desk.say("show"), "((- b) * 7)")
        self.assertEqual(desk.say("count reg"), "0")
        self.assertEqual(desk.say("table\nr\nx r 5 ?\ny r 2 (@r * @r)\nz r 0 (- @r)\nw r 1 0..9"), "ok")
        self.assertEqual(desk.say("least r"), "8 2 y z x w")
        self.refused(NoLine, desk, "count reg")
        self.assertEqual(desk.say("tree a"), "ok")
        self.assertEqual(desk.say("least r"), "5 1 x")

    def test_refused_and_then_as_before(self):
        desk = desk_with(TEXT, "(a + 3)")
        self.assertEqual(self.refused(NoText, desk, "tree (a + 03)").at, 6)
        self.assertEqual(self.refused(NoText, desk, "tree (a").at, 2)
        self.assertEqual(self.refused(NoText, desk, "tree ").at, 0)
        self.assertEqual(self.refused(NoText, desk, "tree  a").at, 0)
        self.assertEqual(self.refused(NoText, desk, "tree a ").at, 1)
        self.assertEqual(self.refused(NoText, desk, "tree a\n").at, 1)
        self.assertEqual(self.refused(NoRow, desk, "table\n").row, 0)
        self.assertEqual(self.refused(NoRow, desk, "table\nreg").row, 1)
        self.assertEqual(self.refused(NoRow, desk, "table\nreg\nload reg 2 @mem").row, 1)
        self.assertEqual(self.refused(NoRow, desk, "table\n" + TEXT + "\n").row, 6)
        self.assertEqual(self.refused(NoRow, desk, "table\n\n" + TEXT).row, 0)
        self.assertEqual(desk.say("show"), "(a + 3)")
        self.assertEqual(desk.say("least reg"), "3 1 inc load var")

    def test_all_that_trees_may_have(self):
        desk = Desk()
        tree = bushy(100)
        self.assertEqual(desk.say("tree " + shown(tree)), "ok")
        self.assertEqual(desk.say("show"), shown(tree))
        self.refused(NoText, desk, "tree (- (- " + shown(tree) + "))")
        self.assertEqual(desk.say("show"), shown(tree))
        self.assertEqual(desk.say("tree " + str(MOST)), "ok")
        self.refused(NoText, desk, "tree " + str(MOST + 1))

    def test_two_desks_know_nothing_of_each_other(self):
        one, other = Desk(), Desk()
        one.say("tree a")
        one.say("table\n" + TEXT)
        self.refused(NoLine, other, "show")
        self.refused(NoLine, other, "gap reg")
        other.say("tree b")
        self.assertEqual((one.say("show"), other.say("show")), ("a", "b"))
        self.refused(NoLine, other, "least reg")
        other.say("table\nr\nx r 1 ?")
        self.refused(NoLine, one, "least r")
        self.assertEqual(one.say("least reg"), "2 1 load var")


class TestWorth(Checked):
    def test_by_hand(self):
        desk = desk_with(None, "((b - a) * (b + 2))")
        self.assertEqual(desk.say("worth 5 1"), "28")
        self.assertEqual(desk.say("worth -5 1"), "18")
        self.assertEqual(desk.say("worth 0 0"), "0")
        self.assertEqual(desk.say("worth 1 3"), "-6")
        self.assertEqual(desk.say("worth -1000000000000000000 1000000000000000000"), str(-2 * MOST * (2 - MOST)))
        self.assertEqual(desk_with(None, "(3 - 7)").say("worth"), "-4")
        self.assertEqual(desk_with(None, "(a + (b + a))").say("worth 10 1"), "21")

    def test_numbers_that_are_none(self):
        desk = desk_with(None, "(a + b)")
        for row in ("worth", "worth 1", "worth 1 2 3", "worth 1  2", "worth 1 2 ", "worth  1 2", "worth 01 2", "worth 1 00",
                    "worth -0 1", "worth 1 -01", "worth +1 2", "worth 1 --2", "worth 1 -", "worth a b", "worth 1 b", "worth 1,2",
                    "worth 1 1000000000000000001", "worth -1000000000000000001 2", "worth 1.0 2", "worth 1\n2", "worth 1 2\n",
                    "worth ", "worth  ", "worth 1 2e3", "worth 1 1_0", "worth1 2", "worth\n1 2", "Worth 1 2", " worth 1 2",
                    "worth 1 " + "9" * 5000):
            self.refused(NoLine, desk, row)
        self.assertEqual(desk.say("worth -1000000000000000000 1000000000000000000"), "0")
        for row in ("worth 1", "worth ", "worth 0"):
            self.refused(NoLine, desk_with(None, "7"), row)

    def test_at_random(self):
        chance = random.Random(161)
        for step in range(60):
            tree = random_tree(chance, 5)
            worths = {one: chance.choice([0, 1, -1, MOST, -MOST, chance.randrange(-99, 99)]) for one in names_in(tree)}
            desk = desk_with(None, shown(tree))
            self.assertEqual(desk.say(" ".join(["worth"] + [str(worths[one]) for one in names_in(tree)])),
                             str(worth(tree, worths)))

    def test_many_figures(self):
        # 100 leaves of nineteen figures each.
        tree = bushy(64, "by")
        desk = desk_with(None, shown(tree))
        self.assertEqual(desk.say("worth" + " -1000000000000000000" * 8), str(MOST ** 64))


class TestCovers(Checked):
    def test_by_hand(self):
        desk = desk_with(TEXT, "((a + b) + 3)")
        self.assertEqual(desk.say("least reg"), "6 2 inc add load var load var")
        self.assertEqual(desk.say("count reg"), "1")
        self.assertEqual(desk.say("count mem"), "0")
        for row in ("least mem", "rows mem", "better mem"):
            self.assertEqual(desk.say(row), "none")
        self.assertEqual(desk.say("show"), "((a + b) + 3)")
        self.assertEqual(desk_with(TEXT, "(a + 3)").say("rows reg"), "var a : -> 0; load : 0 -> 0; inc 3 : 0 -> 0")
        self.assertEqual(desk_with(TEXT, "a").say("rows mem"), "var a : -> 0")

    def test_at_random(self):
        chance = random.Random(162)
        none = 0
        for step in range(80):
            tree = random_tree(chance, 4)
            some = chance.choice([PLAIN, random_table(chance, 12), read_table(TEXT)])
            cls = chance.choice(some[0])
            desk = desk_with(shown_table(some), shown(tree))
            found = thrifty(some, tree, cls)
            self.assertEqual(desk.say("count " + cls), str(how_many(some, tree, cls)))
            told = desk.say("least " + cls)
            if found is None:
                none += 1
                self.assertEqual((told, desk.say("rows " + cls)), ("none", "none"))
                continue
            words = told.split(" ")
            numbers = [[tile[0] for tile in some[1]].index(word) for word in words[2:]]
            self.assertEqual([int(word) for word in words[:2]], list(found[:2]))
            self.assertTrue(is_cover(some, tree, cls, numbers))
            self.assertEqual((price(some, numbers), need(some, numbers)), found[:2])
            self.check_rows(desk, some, tree, cls, found)
        self.assertGreater(none, 5)

    def check_rows(self, desk, some, tree, cls, found):
        told = desk.say("rows " + cls)
        names = {tile[0]: tile for tile in some[1]}
        cost, full, most = 0, set(), 0
        for row in told.split("; "):
            self.assertRegex(row, r"^[a-z]+( [a-z]+| [0-9]+)* :( [0-9]+)* -> [0-9]+$")
            words = row.split(" ")
            cost += names[words[0]][3]
            full -= {int(word) for word in words[words.index(":") + 1:-2]}
            full.add(int(words[-1]))
            most = max(most, len(full))
        self.assertEqual((cost, most), (found[0], found[1]))
        self.assertEqual(full, {int(told.split(" ")[-1])})
        self.assertEqual(desk.say("does " + told), told.split(" ")[-1] + " " + cls + " " + shown(tree))

    def test_numbers_of_many_figures(self):
        # Two tiles for each name: as many covers as 2 by itself a hundred times.
        text = "r\nx r 0 ?\ny r 0 ?\nz r 0 (@r + @r)"
        self.assertEqual(desk_with(text, shown(bushy(100))).say("count r"), str(2 ** 100))


class TestDoes(Checked):
    def test_by_hand(self):
        desk = desk_with(TEXT)
        for rows, told in (("", "empty"), (" var a : -> 0", "0 mem a"), (" var a : -> 99", "99 mem a"),
                           (" var a : -> 0; load : 0 -> 0", "0 reg a"),
                           (" var a : -> 7; var b : -> 3", "3 mem b; 7 mem a"),
                           (" var a : -> 1; load : 1 -> 0; inc 9 : 0 -> 5; var z : -> 2", "2 mem z; 5 reg (a + 9)"),
                           (" var a : -> 1; load : 1 -> 0; var b : -> 1; load : 1 -> 1; add : 1 0 -> 2", "2 reg (b + a)"),
                           (" var a : -> 1; load : 1 -> 0; sub 1 : 0 -> 0", "0 reg (a - 1)")):
            self.assertEqual(desk.say("does" + rows), told)

    def test_rows_that_are_none(self):
        desk = desk_with(TEXT)
        good = "var a : -> 0"
        for row in ("", " ", "var", "var a", "var a :", "var a : ->", "var a :-> 0", "var a: -> 0", "var a : - > 0", "var a -> 0",
                    "var a : 0", "var  a : -> 0", "var a  : -> 0", "var a :  -> 0", "var a : ->  0", " var a : -> 0", "var a : -> 0 ",
                    "var a : -> 00", "var a : -> 01", "var a : -> -1", "var a : -> 100", "var a : -> x", "var a : -> 0 1",
                    "var a : -> 0;", "var a : : -> 0", "var a : -> -> 0", "var a -> : 0", "Var a : -> 0", "vars a : -> 0",
                    "nosuch a : -> 0", "reg a : -> 0", "mem : -> 0", ": -> 0", "a : -> 0", "0 a : -> 0", "var A : -> 0",
                    "var abcdefghi : -> 0", "var 3 : -> 0", "var a b : -> 0", "var : -> 0", "var a : 0 -> 0", "var -1 : -> 0",
                    "load : 0 -> 0", "load : -> 0", "add : 0 0 -> 1", "var a : -> 0\n", "var a : -> 1000000000000000000000"):
            self.assertEqual(self.refused(NotRight, desk, "does " + row).row, 0, row)
            kept = "does var b : -> 5; load : 5 -> 6; " + row + "; " + good
            self.assertEqual(self.refused(NotRight, desk, kept).row, 2, row)
            self.assertEqual(self.refused(NotRight, desk, kept + "; " + row).row, 2, row)

    def test_the_first_row_that_can_not_be_done(self):
        desk = desk_with(TEXT)
        for rows, number in (("var a : -> 0; var b : -> 0", 1), ("var a : -> 0; load : 0 -> 1; load : 1 -> 2; none", 2),
                             ("var a : -> 0; load : 0 -> 0; inc 10 : 0 -> 0", 2), ("var a : -> 0; inc 3 : 0 -> 0", 1),
                             ("var a : -> 0; load : 0 -> 0; inc 03 : 0 -> 0", 2), ("var a : -> 0; load : 0 -> 0; inc a : 0 -> 0", 2),
                             ("var a : -> 0; load : 0 -> 0; sub 2 : 0 -> 0", 2), ("var a : -> 0; ", 1), ("; var a : -> 0", 0),
                             ("var a : -> 0;load : 0 -> 0", 0), ("var a : -> 0 ; load : 0 -> 0", 0), ("var a : -> 0;  load : 0 -> 0", 1)):
            self.assertEqual(self.refused(NotRight, desk, "does " + rows).row, number, rows)

    def test_one_row_without_signs(self):
        desk = desk_with(TEXT)
        self.assertEqual(desk.say("does"), "empty")
        self.assertEqual(self.refused(NotRight, desk, "does ").row, 0)
        self.assertEqual(self.refused(NotRight, desk, "does  ").row, 0)
        self.refused(NoLine, desk, "does\n")
        self.refused(NoLine, desk, "doesvar a : -> 0")

    def test_more_than_a_tree_may_have(self):
        desk = desk_with("r\nx r 0 ?\nt r 0 (- @r)")
        turns = "does x a : -> 0" + "; t : 0 -> 0" * 39
        self.assertEqual(desk.say(turns), "0 r " + "(- " * 39 + "a" + ")" * 39)
        self.assertEqual(self.refused(NotRight, desk, turns + "; t : 0 -> 0").row, 40)

    def test_passes_numbers_and_names(self):
        desk = desk_with("r m\nbig r 1 ((? * 0..1000000000000000000) - ?)\ncopy m 0 @r")
        self.assertEqual(desk.say("does big a 1000000000000000000 b : -> 3; copy : 3 -> 0"),
                         "0 m ((a * 1000000000000000000) - b)")
        for row in ("big a 1000000000000000001 b : -> 3", "big a b 1 : -> 3", "big 1 a b : -> 3", "big a 1 : -> 3", "big a 1 b c : -> 3"):
            self.assertEqual(self.refused(NotRight, desk, "does " + row).row, 0)


class TestGap(Checked):
    def test_all_and_lacks(self):
        self.assertEqual(desk_with(shown_table(EVERY)).say("gap r"), "all")
        desk = desk_with(TEXT)
        told = desk.say("gap reg")
        self.assertTrue(told.startswith("lacks "))
        self.assertEqual(pieces(read(told[6:])), 1)
        self.assertEqual(how_many(read_table(TEXT), read(told[6:]), "reg"), 0)
        for word in ("turn", "sum", "less", "by"):
            some = table("r", *[tile[1:] for tile in EVERY[1] if tile[2][0] != word])
            told = desk_with(shown_table(some)).say("gap r")
            self.assertEqual(told[:6], "lacks ")
            self.assertEqual((read(told[6:])[0], pieces(read(told[6:]))), (word, 2 if word == "turn" else 3))

    def test_great(self):
        some = great_table()
        desk = desk_with(shown_table(some))
        self.assertEqual([opened(gap(some, cls)[1])[-1] for cls in "qefg"], [3, 15, 63, 255])
        for cls, count in (("q", 3), ("e", 15), ("f", 63)):
            told = desk.say("gap " + cls)
            self.assertEqual((told[:6], pieces(read(told[6:]))), ("lacks ", count))
            self.assertEqual(how_many(some, read(told[6:]), cls), 0)
        self.assertEqual(desk.say("gap g"), "great")
        self.assertEqual(desk.say("gap u"), "all")

    def test_too_many(self):
        tiles = []
        for k in range(0, 4 * 34, 4):
            ends = [("from", k + step, k + step) for step in range(4)]
            tiles.append(("r", ("by", ("sum", ends[0], ends[1]), ("sum", ends[2], ends[3])), 1))
        self.refused(TooMany, desk_with(shown_table(table("r", *tiles))), "gap r")
        self.assertEqual(desk_with(shown_table(table("r", *tiles[:33]))).say("gap r")[:6], "lacks ")


def great_table():
    """A table with classes for all trees but sums, but sums of two sums of two sums, but such sums of such sums ..

    Class u has all trees.
    """
    u, q = ("at", "u"), ("at", "q")
    others = [ANY, ("from", 0, MOST), ("turn", u), ("less", u, u), ("by", u, u)]
    tiles = [("u", ("sum", u, u), 1), ("u", q, 1)] + [("q", pattern, 1) for pattern in others]
    for cls, below in ("eq", "fe", "gf"):
        inner = [("sum", ("at", below), u), ("sum", u, ("at", below)), q]
        tiles += [(cls, ("sum", one, u), 1) for one in inner] + [(cls, ("sum", u, one), 1) for one in inner]
        tiles.append((cls, q, 1))
    return table("uqefg", *tiles)


class TestStraight(Checked):
    def test_by_hand(self):
        for text, told in (("0", "0"), ("(a - a)", "0"), ("7", "7"), ("a", "1 a"), ("(- a)", "-1 a"), ("(2 - 5)", "-3"),
                           ("((- 3) * (a * a))", "-3 a a"), ("((a + b) * (a - b))", "1 a a + -1 b b"),
                           ("((a - 1) * (a - 1))", "1 + -2 a + 1 a a"), ("((b * a) - (4 + zz))", "-4 + -1 zz + 1 a b"),
                           ("(0 * a)", "0"), ("(1000000000000000000 * (1000000000000000000 * b))", str(MOST ** 2) + " b")):
            self.assertEqual(desk_with(None, text).say("straight"), told, text)

    def test_at_random(self):
        chance = random.Random(163)
        for step in range(40):
            tree = random_tree(chance, 4)
            wanted = " + ".join(" ".join((str(number),) + names) for names, number in straight(tree)) or "0"
            self.assertEqual(desk_with(None, shown(tree)).say("straight"), wanted)

    def test_too_many(self):
        names = ["n" + "abcdefghij"[k // 10] + "abcdefghij"[k % 10] for k in range(70)]
        wide = [name(one) for one in names]
        ten, twenty, three, rest = wide[:10], wide[10:30], wide[:3], wide[3:]
        just = ("by", chain(ten), chain(twenty))
        more = ("by", chain(three), split(rest))
        self.assertEqual(desk_with(None, shown(just)).say("straight").count(" + "), 199)
        desk = desk_with(None, shown(more))
        self.refused(TooMany, desk, "straight")
        self.assertEqual(desk.say("show"), shown(more))


def chain(trees):
    """The sum of trees, one behind the other."""
    found = trees[0]
    for tree in trees[1:]:
        found = ("sum", found, tree)
    return found


def split(trees):
    """The sum of trees, as flat as may be."""
    half = len(trees) // 2
    return trees[0] if len(trees) == 1 else ("sum", split(trees[:half]), split(trees[half:]))


class TestBetter(Checked):
    def test_by_hand(self):
        desk = desk_with(TEXT, "(3 + (a + b))")
        self.assertEqual(desk.say("least reg"), "none")
        told = desk.say("better reg")
        found = re.fullmatch(r"6 (\(\((a|b) \+ (a|b)\) \+ 3\)|\(\((a|b) \+ 3\) \+ (a|b)\)|\((a|b) \+ \((a|b) \+ 3\)\))", told)
        self.assertIsNotNone(found, told)
        self.assertEqual(desk.say("show"), told[2:])
        self.assertEqual(desk.say("least reg")[:2], "6 ")
        self.assertEqual(desk.say("better reg")[:2], "6 ")
        self.assertEqual(desk.say("straight"), "3 + 1 a + 1 b")
        self.assertEqual(desk.say("better mem"), "none")
        self.assertEqual(desk_with(TEXT, "a").say("better reg"), "2 a")

    def test_at_random(self):
        chance = random.Random(164)
        found = {"none": 0, "told": 0, "many": 0}
        for step in range(120):
            tree = random_tree(chance, chance.randrange(1, 6))
            some = chance.choice([PLAIN, random_table(chance, 10)])
            cls = chance.choice(some[0])
            desk = desk_with(shown_table(some), shown(tree))
            try:
                trees = [entry[0] for entry in led_to(tree)]
            except TooMany:
                self.refused(TooMany, desk, "better " + cls)
                self.assertEqual(desk.say("show"), shown(tree))
                found["many"] += 1
                continue
            told = desk.say("better " + cls)
            least = cheapest(some, tree, cls)[0]
            if least is None:
                self.assertEqual((told, desk.say("show")), ("none", shown(tree)))
                found["none"] += 1
                continue
            cost, _, text = told.partition(" ")
            self.assertEqual(cost, str(least))
            self.assertIn(read(text), trees)
            self.assertEqual(labels(some, read(text))[0][1][some[0].index(cls)], least)
            self.assertEqual(desk.say("show"), text)
            found["told"] += 1
        self.assertGreater(min(found.values()), 2)


class TestNoLine(Checked):
    ROWS = ["show", "worth", "straight", "does", "gap reg"] + [word + " reg" for word in BOTH]

    def test_without_a_table_or_a_tree(self):
        for row in self.ROWS:
            self.refused(NoLine, Desk(), row)
        of_tree, of_table = desk_with(None, "7"), desk_with(TEXT)
        for row in self.ROWS:
            if row in ("show", "worth", "straight"):
                self.refused(NoLine, of_table, row)
                self.assertIsInstance(of_tree.say(row), str)
            elif row in ("does", "gap reg"):
                self.refused(NoLine, of_tree, row)
                self.assertIsInstance(of_table.say(row), str)
            else:
                self.refused(NoLine, of_tree, row)
                self.refused(NoLine, of_table, row)
                self.assertIsInstance(desk_with(TEXT, "7").say(row), str)

    def test_rows_that_are_none(self):
        desk = desk_with(TEXT, "(a + 3)")
        for row in ("", " ", "\n", "show ", "show a", "show show", " show", "SHOW", "Show", "shows", "show\n", "straight ",
                    "straight a", "straight 200", " straight", "straight\n", "table", "table ", "table " + TEXT, "table  \n" + TEXT,
                    "Table\n" + TEXT, " table\n" + TEXT, "tables\n" + TEXT, TEXT, "tree", "tree\na", "treea", "Tree a", " tree a",
                    "least", "least ", "least  reg", "least reg ", " least reg", "least reg mem", "least reg\n", "least\nreg",
                    "least Reg", "least re", "least nosuch", "least load", "leastreg", "count", "count  reg", "count reg 200",
                    "count nosuch", "rows", "rows reg ", "rows nosuch", "rows  reg", "better", "better reg mem", "better nosuch",
                    "better  reg", "gap", "gap ", "gap  reg", "gap reg ", "gap nosuch", "gap reg mem", "do", "doe", "help", "worths",
                    "walk reg", "price reg", "none", "a", "(a + 3)"):
            self.refused(NoLine, desk, row)
        self.assertEqual(desk.say("show"), "(a + 3)")
        self.assertEqual(desk.say("least reg"), "3 1 inc load var")

    def test_classes_of_no_table(self):
        desk = desk_with("r m\nx r 1 ?", "a")
        for word in BOTH + ("gap",):
            for cls in ("reg", "rm", "x", "R", "", "rr", "r\n", "?"):
                self.refused(NoLine, desk, word + " " + cls)
            self.assertIsInstance(desk.say(word + " m"), str)

    def test_ahead_of_the_refusals_of_the_points(self):
        # No table: rows that are none don't matter yet. No such class: neither do trees that are too many.
        self.refused(NoLine, Desk(), "does nosuch")
        self.refused(NoLine, Desk(), "does ")
        desk = desk_with(TEXT, shown(bushy(60)))
        self.refused(NoLine, desk, "better nosuch")
        self.refused(TooMany, desk, "better reg")
        self.refused(NoLine, desk, "straight 5")
        self.assertEqual(desk.say("show"), shown(bushy(60)))


if __name__ == "__main__":
    unittest.main()
