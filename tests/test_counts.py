import random
import unittest

from rowsmith.counts import all_covers, how_many
from rowsmith.covers import is_cover
from rowsmith.errors import NoRow, NoText, RowsmithError, TooMany
from rowsmith.tables import is_table
from samples import MOST, bushy, comb, name, num, plain_covers, random_table, random_tree, table, turned

A = name("a")
AT = ("at", "r")
ANY = ("any",)


def copies(count):
    """A table with as many like tiles for a name."""
    return table("r", ("r", ("sum", AT, AT), 1), ("r", ("turn", AT), 1), *[("r", ANY, 1)] * count)


class TestHowMany(unittest.TestCase):
    def test_none_and_one(self):
        self.assertEqual(how_many(copies(1), A, "r"), 1)
        self.assertEqual(how_many(copies(1), num(1), "r"), 0)
        self.assertEqual(how_many(copies(1), ("sum", A, num(1)), "r"), 0)
        self.assertEqual(how_many(copies(1), ("sum", num(1), A), "r"), 0)
        self.assertEqual(all_covers(copies(1), A, "r"), [[2]])
        self.assertEqual(all_covers(copies(1), num(1), "r"), [])
        self.assertEqual(all_covers(copies(1), ("sum", bushy(8), num(1)), "r", 1), [])

    def test_like_tiles_count_each_for_itself(self):
        self.assertEqual(how_many(copies(3), A, "r"), 3)
        self.assertEqual(sorted(all_covers(copies(3), ("turn", A), "r")), [[1, 2], [1, 3], [1, 4]])
        self.assertEqual(how_many(copies(3), ("sum", A, ("turn", A)), "r"), 9)

    def test_a_class_without_tiles(self):
        bare = table("rm", ("r", ANY, 1), ("r", ("turn", ("at", "m")), 1))
        self.assertEqual((how_many(bare, A, "m"), all_covers(bare, A, "m")), (0, []))
        self.assertEqual((how_many(bare, ("turn", A), "r"), all_covers(bare, ("turn", A), "r")), (0, []))

    def test_rings_of_passes(self):
        ring = table("abc", ("a", ("at", "b"), 0), ("b", ("at", "c"), 0), ("c", ("at", "a"), 0), ("a", ANY, 1))
        self.assertEqual([all_covers(ring, A, cls) for cls in "abc"], [[[3]], [[1, 2, 3]], [[2, 3]]])
        both = table("ab", ("a", ("at", "b"), 0), ("b", ("at", "a"), 0), ("a", ANY, 1), ("b", ANY, 1))
        self.assertEqual(sorted(all_covers(both, A, "a")), [[0, 3], [2]])
        self.assertEqual(sorted(all_covers(both, A, "b")), [[1, 2], [3]])
        alone = table("ab", ("a", ("at", "b"), 0), ("b", ("at", "a"), 0))
        self.assertEqual((how_many(alone, A, "a"), all_covers(alone, A, "a")), (0, []))

    def test_all_passes_of_six_classes(self):
        passes = [(cls, ("at", hole), 1) for cls in "abcdef" for hole in "abcdef" if cls != hole]
        full = table("abcdef", ("f", ANY, 1), *passes)
        # The ways from one class to another through any of four more: 1 + 4 + 12 + 24 + 24.
        self.assertEqual([how_many(full, A, cls) for cls in "abcdef"], [65] * 5 + [1])
        told = all_covers(full, A, "a")
        self.assertEqual(len(set(map(tuple, told))), 65)
        self.assertTrue(all(is_cover(full, A, "a", cover) for cover in told))

    def test_many_chains_that_lead_nowhere(self):
        passes = [("abcde"[k % 5], ("at", "bcdef"[k % 5]), 1) for k in range(37)]
        maze = table("abcdef", ("a", ("sum", ("at", "a"), ("at", "a")), 1), ("a", ANY, 1), *passes)
        self.assertTrue(is_table(maze))
        told = all_covers(maze, bushy(100), "a", 1)
        self.assertEqual((len(told), len(told[0])), (1, 199))

    def test_many_figures(self):
        self.assertEqual(how_many(copies(7), bushy(100), "r"), 7 ** 100)
        self.assertEqual(how_many(copies(38), bushy(100), "r"), 38 ** 100)
        self.assertEqual(how_many(copies(5), turned(A, 39), "r"), 5)
        chain = table("r", ("r", ANY, 1), ("r", ("turn", AT), 1), ("r", ("turn", ("turn", AT)), 1))
        ways = [1, 1]
        while len(ways) < 40:
            ways.append(ways[-1] + ways[-2])
        self.assertEqual(how_many(chain, turned(A, 39), "r"), ways[39])
        self.assertEqual(how_many(copies(2), ("sum", bushy(99), num(1)), "r"), 0)

    def test_random_tables(self):
        chance = random.Random(9)
        several = 0
        for step in range(300):
            some, tree = random_table(chance, chance.randrange(6, 11)), random_tree(chance, 4)
            for cls in some[0]:
                plain = plain_covers(some, tree, cls)
                self.assertEqual(how_many(some, tree, cls), len(plain))
                if len(plain) <= 200:
                    self.assertEqual(sorted(all_covers(some, tree, cls)), sorted(plain))
                    several += len(plain) > 1
        self.assertGreater(several, 50)


class TestLimits(unittest.TestCase):
    def refused(self, *asked):
        with self.assertRaises(TooMany) as caught:
            all_covers(*asked)
        for above in (RowsmithError, ValueError):
            self.assertIsInstance(caught.exception, above)
        for other in (NoText, NoRow):
            self.assertNotIsInstance(caught.exception, other)

    def test_just_the_number_and_one_less(self):
        tree = ("sum", A, ("sum", A, A))
        for count in (2, 3, 5, 10):
            self.assertEqual(len(all_covers(copies(count), tree, "r", count ** 3)), count ** 3)
            self.refused(copies(count), tree, "r", count ** 3 - 1)
        self.assertEqual(len(all_covers(copies(1), tree, "r", 1)), 1)
        self.refused(copies(2), A, "r", 1)

    def test_left_out_it_is_two_hundred(self):
        # 2 * 2 * 2 * 5 * 5 covers, and one more by a tile that lies on the whole.
        tree = ("less", bushy(3), ("sum", num(1), num(1)))
        whole = ("less", ("sum", ("sum", ANY, ANY), ANY), ("sum", ("from", 1, 1), ("from", 1, 1)))
        tiles = [("r", ("sum", AT, AT), 1), ("r", ("less", AT, AT), 1)]
        tiles += [("r", ANY, 1)] * 2 + [("r", ("from", 0, 9), 1)] * 5
        just = table("r", *tiles)
        more = table("r", *tiles, ("r", whole, 1))
        self.assertTrue(is_table(just) and is_table(more))
        self.assertEqual((how_many(just, tree, "r"), how_many(more, tree, "r")), (200, 201))
        self.assertEqual(len(all_covers(just, tree, "r")), 200)
        self.assertEqual(len(all_covers(just, tree, "r", limit=200)), 200)
        self.refused(more, tree, "r")
        self.assertEqual(len(all_covers(more, tree, "r", 201)), 201)
        self.refused(just, tree, "r", 199)

    def test_very_many_are_refused_at_once(self):
        self.refused(copies(38), bushy(100), "r", 1000)
        self.assertEqual(all_covers(copies(38), ("sum", bushy(99), num(1)), "r", 1), [])

    def test_a_thousand_long_covers(self):
        wide = table("rm", ("r", ("sum", ("at", "m"), ("at", "m")), 1), ("m", AT, 1), ("r", ANY, 1),
                     *[("r", ("from", 0, MOST), 1)] * 10)
        tree = ("sum", bushy(95), ("sum", num(0), ("sum", num(1), num(2))))
        told = all_covers(wide, tree, "m", 1000)
        self.assertEqual(len(set(map(tuple, told))), 1000)
        self.assertTrue(all(is_cover(wide, tree, "m", cover) for cover in told[::50]))
        self.refused(wide, tree, "m", 999)

    def test_told_lists_are_the_askers_own(self):
        tree = ("sum", comb(3), A)
        some = table("r", ("r", ("sum", AT, AT), 1), ("r", ANY, 1), ("r", ("from", 0, 9), 1), ("r", ANY, 1))
        first, second = all_covers(some, tree, "r"), all_covers(some, tree, "r")
        kept = [list(cover) for cover in second]
        self.assertEqual(len({id(cover) for cover in first + second}), len(first + second))
        for cover in first:
            cover.append(99)
            cover[0] = 99
        first.clear()
        self.assertEqual(second, kept)
        self.assertEqual(sorted(all_covers(some, tree, "r")), sorted(kept))


if __name__ == "__main__":
    unittest.main()
