import random
import unittest

from rowsmith.cells import rows_of
from rowsmith.counts import all_covers, how_many
from rowsmith.errors import NoName, NoRow, NoText, NotRight, RowsmithError, TooMany
from rowsmith.rows import behind, cell_words, run
from rowsmith.trees import is_tree, worth
from samples import (MOST, ODD_THINGS, bushy, deep_thing, name, num, random_table, random_tree, table, turned)

A = name("a")
R, M = ("at", "r"), ("at", "m")
ANY = ("any",)
# 0 to 6 a tile for each kind of pattern, 7 and 8 passes, 9 four holes and leaves among them, 10 leaves alone.
KINDS = table("rm", ("r", ANY, 1), ("r", ("from", 3, 7), 1), ("r", ("turn", R), 1), ("r", ("sum", R, R), 1),
              ("r", ("less", R, R), 1), ("m", ("by", R, M), 1), ("m", ("sum", M, ("from", 0, MOST)), 1),
              ("m", R, 1), ("r", M, 1),
              ("r", ("sum", ("sum", R, ("by", M, ANY)), ("less", R, ("by", ("from", 0, 9), R))), 1),
              ("m", ("less", ("from", 1, 2), ("sum", ANY, ANY)), 1))
ASKS = [("behind", lambda some, rows: behind(some, rows)), ("cell_words", lambda some, rows: cell_words(some, rows)),
        ("run", lambda some, rows: run(some, rows, {}))]
# Rows that leave a in cell 0 and 5 in cell 1, in class r, and b in cell 2, in class m.
BEGUN = [(0, ("a",), (), 0), (1, (5,), (), 1), (0, ("b",), (), 2), (7, (), (2,), 2)]


class TestBehind(unittest.TestCase):
    def test_the_empty_list(self):
        self.assertEqual(behind(KINDS, []), [])
        self.assertEqual(cell_words(KINDS, []), [])
        self.assertEqual(run(KINDS, [], {}), [])

    def test_each_kind_of_pattern(self):
        for row, left in (((0, ("abcdefgh",), (), 9), ("r", name("abcdefgh"))), ((1, (3,), (), 9), ("r", num(3))),
                          ((1, (7,), (), 9), ("r", num(7))), ((2, (), (1,), 9), ("r", ("turn", num(5)))),
                          ((3, (), (0, 1), 9), ("r", ("sum", A, num(5)))),
                          ((3, (), (1, 0), 9), ("r", ("sum", num(5), A))),
                          ((4, (), (0, 1), 9), ("r", ("less", A, num(5)))),
                          ((5, (), (0, 2), 9), ("m", ("by", A, name("b")))),
                          ((6, (MOST,), (2,), 9), ("m", ("sum", name("b"), num(MOST)))),
                          ((7, (), (0,), 9), ("m", A)), ((8, (), (2,), 9), ("r", name("b"))),
                          ((10, (2, "x", "y"), (), 9), ("m", ("less", num(2), ("sum", name("x"), name("y")))))):
            told = behind(KINDS, BEGUN + [row])
            rest = [had for had in ((0, "r", A), (1, "r", num(5)), (2, "m", name("b"))) if had[0] not in row[2]]
            self.assertEqual(told, rest + [(9,) + left], row)
            self.assertIsInstance(told, list)

    def test_four_holes(self):
        rows = [(0, ("a",), (), 5), (0, ("b",), (), 7), (0, ("c",), (), 0), (0, ("d",), (), 99), (7, (), (7,), 7),
                (9, ("x", 4), (5, 7, 0, 99), 3)]
        tree = ("sum", ("sum", A, ("by", name("b"), name("x"))), ("less", name("c"), ("by", num(4), name("d"))))
        self.assertEqual(behind(KINDS, rows), [(3, "r", tree)])
        self.assertEqual(cell_words(KINDS, rows), [(3, [9, 0, 7, 0, 0, 0])])

    def test_a_cell_that_is_just_emptied(self):
        for to, good in ((0, True), (1, True), (2, False), (3, True)):
            rows = BEGUN + [(3, (), (0, 1), to)]
            if good:
                self.assertIn((to, "r", ("sum", A, num(5))), behind(KINDS, rows))
            else:
                self.assertRaises(NotRight, behind, KINDS, rows)
        self.assertEqual(behind(KINDS, BEGUN[:1] + [(2, (), (0,), 0)] * 3), [(0, "r", turned(A, 3))])

    def test_by_rising_cells(self):
        cells = [99, 0, 50, 10, 9, 1]
        rows = [(0, ("abcdef"[k],), (), cell) for k, cell in enumerate(cells)]
        self.assertEqual(behind(KINDS, rows), [(0, "r", name("b")), (1, "r", name("f")), (9, "r", name("e")),
                                               (10, "r", name("d")), (50, "r", name("c")), (99, "r", A)])
        self.assertEqual([cell for cell, word in cell_words(KINDS, rows)], sorted(cells))
        self.assertEqual([cell for cell, number in run(KINDS, rows, dict.fromkeys("abcdef", 1))], sorted(cells))
        full = [(0, ("a",), (), cell) for cell in range(100)]
        self.assertEqual(len(behind(KINDS, full)), 100)

    def test_two_thousand_rows(self):
        rows = BEGUN[:1] + [(7, (), (0,), 0), (8, (), (0,), 0)] * 999 + [(7, (), (0,), 0)]
        self.assertEqual(len(rows), 2000)
        self.assertEqual(behind(KINDS, rows), [(0, "m", A)])
        self.assertEqual(cell_words(KINDS, rows), [(0, [7] + [8, 7] * 999 + [0])])
        self.assertEqual(run(KINDS, rows, {"a": 3}), [(0, 3)])

    def test_random_rows(self):
        chance = random.Random(101)
        left = 0
        for step in range(200):
            rows, cells = random_rows(chance)
            told = behind(KINDS, rows)
            self.assertEqual(told, [(cell,) + cells[cell][:2] for cell in sorted(cells)])
            self.assertEqual(cell_words(KINDS, rows), [(cell, cells[cell][2]) for cell in sorted(cells)])
            self.assertTrue(all(is_tree(tree) for cell, cls, tree in told))
            worths = {"a": 2, "b": -3, "c": 10 ** 18}
            self.assertEqual(run(KINDS, rows, worths), [(cell, worth(tree, worths)) for cell, cls, tree in told])
            left += len(told)
        self.assertGreater(left, 500)

    def test_nothing_is_changed_or_kept(self):
        rows, worths = list(BEGUN), {"a": 1, "b": 2}
        first, words, ran = behind(KINDS, rows), cell_words(KINDS, rows), run(KINDS, rows, worths)
        self.assertEqual((rows, worths), (BEGUN, {"a": 1, "b": 2}))
        kept = [(cell, list(word)) for cell, word in words]
        rows.append((2, (), (0,), 0))
        worths["a"] = 7
        self.assertEqual(words, kept)
        self.assertEqual(ran, [(0, 1), (1, 5), (2, 2)])
        first.clear()
        for cell, word in words:
            word.append(77)
        self.assertEqual(cell_words(KINDS, BEGUN), kept)
        self.assertEqual(len(behind(KINDS, BEGUN)), 3)
        again = cell_words(KINDS, BEGUN) + cell_words(KINDS, BEGUN)
        self.assertEqual(len({id(word) for cell, word in again}), 6)


def random_rows(chance):
    """Rows that can be done, and what stands in the cells behind them: tuples (class, tree, word)."""
    cells, rows = {}, []
    for step in range(chance.randrange(1, 40)):
        empty = [cell for cell in range(100) if cell not in cells]
        of = {cls: [cell for cell in cells if cells[cell][0] == cls] for cls in "rm"}
        borne = chance.choice("abc")
        ways = [((0, (borne,), ()), ("r", name(borne), [0])), ((1, (4,), ()), ("r", num(4), [1]))]
        for cell in of["r"]:
            ways.append(((2, (), (cell,)), ("r", ("turn", cells[cell][1]), [2] + cells[cell][2])))
            ways.append(((7, (), (cell,)), ("m", cells[cell][1], [7] + cells[cell][2])))
            for other in of["r"]:
                if other != cell:
                    both = cells[cell][2] + cells[other][2]
                    ways.append(((4, (), (cell, other)), ("r", ("less", cells[cell][1], cells[other][1]), [4] + both)))
            for other in of["m"]:
                both = cells[cell][2] + cells[other][2]
                ways.append(((5, (), (cell, other)), ("m", ("by", cells[cell][1], cells[other][1]), [5] + both)))
        row, left = chance.choice(ways[:2] if chance.randrange(3) == 0 else ways)
        to = chance.choice(list(row[2]) + empty)
        if is_tree(left[1]):
            rows.append(row + (to,))
            for cell in row[2]:
                cells.pop(cell)
            cells[to] = left
    return rows, cells


class TestNotRight(unittest.TestCase):
    def refused(self, rows, number, some=KINDS):
        """That all three ways to do rows refuse them with this number."""
        for asked, ask in ASKS:
            with self.assertRaises(NotRight, msg=(asked, rows[-1])) as caught:
                ask(some, rows)
            self.assertEqual(caught.exception.row, number, asked)
            self.assertIsInstance(caught.exception, RowsmithError)
            self.assertNotIsInstance(caught.exception, (NoName, NoRow, NoText, TooMany))

    def wrong(self, row):
        """That a row is refused alone, behind right rows, and ahead of other wrong ones."""
        self.refused([row], 0)
        self.refused(BEGUN + [row], 4)
        self.refused(BEGUN + [row] + [(0, ("c",), (), 60), None, (0, (), (), 0)], 4)

    def test_things_that_are_no_rows(self):
        for thing in ODD_THINGS + [deep_thing(60), deep_thing(60, list), {}, [0, ("a",), (), 9], "abcd", (0, ("a",), ()),
                                   (0, ("a",), (), 9, 9), ((0, ("a",), (), 9),), [(0, ("a",), (), 9)]]:
            self.wrong(thing)

    def test_tiles(self):
        for tile in (-1, 11, 40, 10 ** 59, -(10 ** 59), True, False, None, "0", "taa", (0,), [0], ()):
            self.wrong((tile, ("a",), (), 9))
        # Each with what the tile that Python would take for it bears.
        self.refused([(-1, (1, "x", "y"), (), 9)], 0)
        self.refused([(-11, ("a",), (), 9)], 0)
        self.refused([(True, (5,), (), 9)], 0)
        self.refused([(False, ("a",), (), 9)], 0)
        one = table("r", ("r", ANY, 1))
        self.refused([(1, ("a",), (), 0)], 0, one)
        self.assertEqual(behind(one, [(0, ("a",), (), 0)]), [(0, "r", A)])

    def test_cells_to_leave_in(self):
        for to in (-1, 100, 101, 10 ** 59, True, False, None, "9", (9,), [9], ()):
            self.wrong((0, ("c",), (), to))
        for to in (0, 1, 2):
            self.refused(BEGUN + [(0, ("c",), (), to)], 4)
        for to in (3, 99):
            self.assertEqual(len(behind(KINDS, BEGUN + [(0, ("c",), (), to)])), 4)
        self.refused(BEGUN + [(2, (), (0,), 1)], 4)
        self.assertEqual(behind(KINDS, [(0, ("a",), (), 0), (0, ("b",), (), 99)]), [(0, "r", A), (99, "r", name("b"))])

    def test_bears(self):
        for borne in ((), ("a", "a"), (5,), (None,), ("",), ("A",), ("abcdefghi",), ("a1",), ("a b",), (("a",),),
                      (["a"],), (True,), "a", ["a"], None, 0, (name("a"),)):
            self.wrong((0, borne, (), 9))
        for borne in ((), (5, 5), ("a",), (2,), (8,), (-5,), (True,), (None,), ("5",), ((5,),), ([5],), 5, [5], None,
                      (num(5),), (10 ** 59,)):
            self.wrong((1, borne, (), 9))
        for borne in ((3,), (4,), (7,)):
            self.assertEqual(behind(KINDS, [(1, borne, (), 9)]), [(9, "r", num(borne[0]))])
        for borne in ((1, "x"), (1, "x", "y", "z"), ("x", 1, "y"), (0, "x", "y"), (3, "x", "y"), (1, "x", 1),
                      (True, "x", "y"), (1, "", "y")):
            self.wrong((10, borne, (), 9))
        for row in ((2, ("a",), (0,), 9), (2, (0,), (0,), 9), (2, [], (0,), 9), (2, None, (0,), 9), (7, ("a",), (0,), 9)):
            self.wrong(row)
        zero = table("r", ("r", ("from", 0, 1), 1))
        for truth in (True, False):
            self.refused([(0, (truth,), (), 0)], 0, zero)
            self.assertEqual(behind(zero, [(0, (int(truth),), (), 0)]), [(0, "r", num(int(truth)))])

    def test_cells_taken(self):
        for taken in ((3,), (99,), (), (0, 1), (-1,), (100,), (True,), (False,), (None,), ("0",), ((0,),), ([0],), 0, [0],
                      None, "0", (10 ** 59,)):
            self.wrong((2, (), taken, 9))
        # Of another class than the hole's, in each of both places.
        for row in ((2, (), (2,), 9), (3, (), (0, 2), 9), (3, (), (2, 0), 9), (5, (), (0, 1), 9), (5, (), (2, 0), 9),
                    (5, (), (2, 2), 9), (7, (), (2,), 9), (8, (), (0,), 9), (6, (1,), (0,), 9)):
            self.wrong(row)
        # Alike, too few, too many, empty.
        for row in ((3, (), (0, 0), 9), (3, (), (0,), 9), (3, (), (0, 1, 2), 9), (3, (), (0, 1, 3), 9), (3, (), (0, 3), 9),
                    (3, (), (3, 0), 9), (3, (), (0, 1, 1), 9), (0, ("c",), (0,), 9), (1, (5,), (0,), 9), (3, (), (), 9),
                    (3, (), (False, 1), 9), (3, (), (0, True), 9), (3, (), [0, 1], 9)):
            self.wrong(row)
        self.refused(BEGUN + [(3, (), (0, 1), 0), (2, (), (1,), 5)], 5)
        self.refused(BEGUN + [(3, (), (0, 1), 5), (2, (), (0,), 0)], 5)
        self.assertEqual(len(behind(KINDS, BEGUN + [(3, (), (0, 1), 5), (0, ("c",), (), 0)])), 3)

    def test_pieces(self):
        # 100 names have 199 pieces.
        wide = sums_of(100)
        self.assertEqual(behind(KINDS, wide), [(0, "r", bushy(100))])
        self.assertEqual(behind(KINDS, wide + [(2, (), (0,), 0)]), [(0, "r", ("turn", bushy(100)))])
        self.refused(wide + [(2, (), (0,), 0)] * 2, len(wide) + 1)
        self.refused(wide + [(0, ("c",), (), 1), (3, (), (0, 1), 0), None], len(wide) + 1)
        # Passes make no tree greater.
        self.assertEqual(len(behind(KINDS, wide + [(2, (), (0,), 0), (7, (), (0,), 5), (8, (), (5,), 6)])), 1)

    def test_pieces_within_one_another(self):
        deep = BEGUN[:1] + [(2, (), (0,), 0)] * 39
        self.assertEqual(behind(KINDS, deep), [(0, "r", turned(A, 39))])
        self.refused(deep + [(2, (), (0,), 0)], 40)
        self.refused(deep + [(0, ("c",), (), 1), (4, (), (1, 0), 1)], 41)
        self.assertEqual(len(behind(KINDS, deep + [(7, (), (0,), 0), (8, (), (0,), 0)])), 1)

    def test_several_wrong_rows(self):
        for number in range(4):
            rows = BEGUN[:number] + [None] + BEGUN[number:] + [(9, (), (), 0), None]
            self.refused(rows, number)
        # Each row is right by itself, but not behind the others.
        self.refused([(2, (), (0,), 0), (0, ("a",), (), 0)], 0)
        self.refused([(0, ("a",), (), 0), (0, ("b",), (), 0), (0, ("c",), (), 100)], 1)
        self.refused([None] * 2000, 0)
        self.refused(BEGUN[:1] + [(7, (), (0,), 0), (8, (), (0,), 0)] * 999 + [(8, (), (0,), 0)], 1999)


def sums_of(leaves):
    """Rows that leave the flat sum of as many names in cell 0."""
    some = table("r", ("r", ANY, 1), ("r", ("sum", ("at", "r"), ("at", "r")), 1))
    cover = all_covers(some, bushy(leaves), "r")[0]
    return [({0: 0, 1: 3}[row[0]],) + row[1:] for row in rows_of(some, bushy(leaves), cover)]


class TestRun(unittest.TestCase):
    def refused(self, rows, worths, missing):
        with self.assertRaises(NoName) as caught:
            run(KINDS, rows, worths)
        self.assertEqual(caught.exception.name, missing)
        self.assertIsInstance(caught.exception, RowsmithError)
        self.assertNotIsInstance(caught.exception, NotRight)

    def test_by_hand(self):
        rows = BEGUN + [(4, (), (0, 1), 3), (5, (), (3, 2), 0), (6, (100,), (0,), 8)]
        self.assertEqual(run(KINDS, rows, {"a": 2, "b": 7, "c": 0}), [(8, (2 - 5) * 7 + 100)])
        self.assertEqual(run(KINDS, rows, {"a": -(10 ** 18), "b": 10 ** 18}), [(8, (-MOST - 5) * MOST + 100)])
        self.assertEqual(run(KINDS, BEGUN, {"a": 2, "b": 7}), [(0, 2), (1, 5), (2, 7)])
        self.assertEqual(run(KINDS, BEGUN[1:2], {}), [(1, 5)])
        self.assertEqual(run(KINDS, BEGUN[:1] + [(2, (), (0,), 4)], {"a": 3}), [(4, -3)])
        self.assertIsInstance(run(KINDS, BEGUN, {"a": 0, "b": 0}), list)

    def test_rows_of_covers_leave_the_worth(self):
        chance = random.Random(102)
        done = 0
        for step in range(150):
            some, tree = random_table(chance, chance.randrange(6, 12)), random_tree(chance, 5)
            worths = {"a": chance.randrange(-9, 9), "b": 5, "c": -MOST, "abcdefgh": MOST}
            for cls in some[0]:
                if not 1 <= how_many(some, tree, cls) <= 200:
                    continue
                for cover in all_covers(some, tree, cls)[:3]:
                    told = run(some, rows_of(some, tree, cover), worths)
                    self.assertEqual([number for cell, number in told], [worth(tree, worths)])
                    done += 1
        self.assertGreater(done, 100)

    def test_names_by_rows_and_within_them(self):
        # Cells and trees tell the names in other orders than the rows do.
        rows = [(0, ("d",), (), 9), (0, ("b",), (), 1), (10, (1, "z", "c"), (), 0), (0, ("a",), (), 2),
                (4, (), (2, 1), 1), (4, (), (1, 9), 3)]
        worths = dict.fromkeys("abcdz", 1)
        self.assertEqual(len(run(KINDS, rows, worths)), 2)
        for missing, first in (("a", "a"), ("b", "b"), ("ab", "b"), ("ad", "d"), ("abcdz", "d"), ("cz", "z"), ("ac", "c"),
                               ("bz", "b"), ("abz", "b"), ("acz", "z")):
            self.refused(rows, {key: 1 for key in worths if key not in missing}, first)

    def test_not_right_goes_first(self):
        for rows, number in ((BEGUN + [None], 4), ([None] + BEGUN, 0), (BEGUN + [(2, (), (9,), 9)], 4),
                             ([(0, ("a",), (), 0)] * 2, 1)):
            for worths in ({}, {"a": 1}, {"a": 1, "b": 2}):
                with self.assertRaises(NotRight) as caught:
                    run(KINDS, rows, worths)
                self.assertEqual(caught.exception.row, number)
        self.refused(BEGUN, {}, "a")
        self.refused(BEGUN, {"a": 1}, "b")


if __name__ == "__main__":
    unittest.main()
