import random
import unittest

from rowsmith.counts import how_many
from rowsmith.covers import is_cover, price
from rowsmith.labels import labels
from rowsmith.least import how_many_least, least
from rowsmith.tables import is_table
from samples import (MOST, PLAIN, bare_table, bushy, comb, name, num, plain_covers, random_table, random_tree, table,
                     turned)

A = name("a")
AT = ("at", "r")
ANY = ("any",)


class TestLeast(unittest.TestCase):
    def check(self, some, tree):
        """That for each class a cover of the label's price is told, or None; gives back how many are told."""
        found = 0
        for cls, number in zip(some[0], labels(some, tree)[0][1]):
            told = least(some, tree, cls)
            if number is None:
                self.assertIsNone(told)
                self.assertEqual(how_many_least(some, tree, cls), 0)
            else:
                self.assertIs(is_cover(some, tree, cls, told), True, (cls, told))
                self.assertEqual(price(some, told), number)
                self.assertGreater(how_many_least(some, tree, cls), 0)
                found += 1
        return found

    def test_by_hand(self):
        tree = ("sum", ("by", A, num(3)), num(6))
        self.assertEqual(least(PLAIN, tree, "r"), [2, 6, 5, 0, 1, 1])
        self.assertEqual(least(PLAIN, tree, "m"), [7, 2, 6, 5, 0, 1, 1])
        self.assertEqual(least(PLAIN, num(10), "r"), None)
        self.assertEqual(least(PLAIN, ("sum", A, ("turn", num(10))), "m"), None)
        self.assertEqual(how_many_least(PLAIN, tree, "r"), 1)
        self.assertEqual(how_many_least(PLAIN, num(10), "r"), 0)

    def test_holes_in_their_order(self):
        four = ("sum", ("less", ("at", "a"), ("at", "b")), ("less", ("at", "c"), ("at", "d")))
        some = table("rabcd", ("r", four, 1), ("d", ("any",), 1), ("c", ("turn", ("at", "d")), 1),
                     ("b", ("from", 0, 9), 1), ("a", ("by", ("at", "b"), ("at", "d")), 1))
        tree = ("sum", ("less", ("by", num(1), A), num(2)), ("less", ("turn", A), A))
        self.assertEqual(least(some, tree, "r"), [0, 4, 3, 1, 3, 2, 1, 1])

    def test_passes_one_behind_another(self):
        some = table("abcd", ("a", ("at", "b"), 1), ("b", ("at", "c"), 1), ("c", ("at", "d"), 1), ("d", ANY, 1),
                     ("a", ("at", "d"), 9), ("a", ANY, 5))
        self.assertEqual([least(some, A, cls) for cls in "abcd"], [[0, 1, 2, 3], [1, 2, 3], [2, 3], [3]])
        self.assertEqual([how_many_least(some, A, cls) for cls in "abcd"], [1, 1, 1, 1])
        dearer = table("abcd", *[tile[1:] for tile in some[1][:5]], ("a", ANY, 4))
        self.assertEqual(how_many_least(dearer, A, "a"), 2)
        self.assertIn(least(dearer, A, "a"), [[0, 1, 2, 3], [5]])

    def test_rings_and_passes_of_price_nothing(self):
        for cost in (0, 1):
            ring = table("abc", ("a", ("at", "b"), cost), ("b", ("at", "c"), cost), ("c", ("at", "a"), cost),
                         ("a", ANY, 0), ("a", ("turn", ("at", "c")), 0))
            self.assertEqual([least(ring, A, cls) for cls in "abc"], [[3], [1, 2, 3], [2, 3]])
            self.assertEqual(least(ring, ("turn", A), "b"), [1, 2, 4, 2, 3])
            self.assertEqual([how_many_least(ring, turned(A, 9), cls) for cls in "abc"], [1, 1, 1])
            self.check(ring, turned(A, 39))
            alone = table("ab", ("a", ("at", "b"), cost), ("b", ("at", "a"), cost))
            self.assertEqual((least(alone, A, "a"), how_many_least(alone, A, "a")), (None, 0))

    def test_all_passes_of_six_classes(self):
        joints = [(cls, hole) for cls in "abcdef" for hole in "abcdef" if cls != hole]
        free = table("abcdef", ("f", ANY, 1), *[(cls, ("at", hole), 0) for cls, hole in joints])
        self.assertTrue(is_table(free))
        self.assertEqual([how_many_least(free, A, cls) for cls in "abcdef"], [65] * 5 + [1])
        self.assertEqual(self.check(free, A), 6)
        paid = table("abcdef", ("f", ANY, 1), *[(cls, ("at", hole), 1) for cls, hole in joints])
        self.assertEqual([how_many_least(paid, A, cls) for cls in "abcdef"], [1] * 6)
        self.assertEqual(self.check(paid, A), 6)

    def test_like_passes(self):
        # Each step by as many passes of the same price as will go into a table, and one that is dearer.
        steps = [(cls, ("at", hole), 1) for cls, hole in ("ab", "bc", "cd", "de", "ef")]
        some = table("abcdef", ("f", ANY, 1), *steps * 7, ("a", ("at", "b"), 2), ("f", ANY, 2))
        self.assertTrue(is_table(some))
        self.assertEqual([how_many_least(some, A, cls) for cls in "abcdef"], [7 ** k for k in (5, 4, 3, 2, 1, 0)])
        self.assertEqual(how_many(some, A, "a"), 8 * 7 ** 4 * 2)
        self.assertEqual(self.check(some, A), 6)

    def test_like_tiles(self):
        some = table("r", *[("r", ANY, 1)] * 3, ("r", ANY, 2), *[("r", ("sum", AT, AT), 4)] * 2, ("r", ("turn", AT), 1))
        self.assertEqual(how_many_least(some, A, "r"), 3)
        self.assertEqual(how_many(some, A, "r"), 4)
        self.assertEqual(how_many_least(some, ("sum", A, ("turn", A)), "r"), 18)
        self.assertEqual(how_many_least(some, bushy(100), "r"), 3 ** 100 * 2 ** 99)
        self.assertEqual(self.check(some, bushy(100)), 1)

    def test_several_ways_of_the_same_price(self):
        # One tile over two turns for the price of two, or of three.
        for cost, wanted in ((1, 1), (2, None), (3, 1)):
            some = table("r", ("r", ANY, 1), ("r", ("turn", AT), 1), ("r", ("turn", ("turn", AT)), cost))
            ways = [1, 1]
            while len(ways) < 40:
                ways.append(ways[-1] + ways[-2])
            for turns in (0, 1, 2, 5, 38, 39):
                least_ways = ways[turns] if wanted is None else 1 + (cost == 1 and turns % 2) * (turns // 2)
                self.assertEqual(how_many_least(some, turned(A, turns), "r"), least_ways, (cost, turns))
                self.check(some, turned(A, turns))

    def test_random_tables(self):
        chance = random.Random(91)
        several = 0
        for step in range(400):
            some = chance.choice([random_table, bare_table])(chance, chance.randrange(6, 41))
            tree = random_tree(chance, 4)
            self.check(some, tree)
            for cls in some[0]:
                if how_many(some, tree, cls) > 1000:
                    continue
                prices = [price(some, cover) for cover in plain_covers(some, tree, cls)]
                count = prices.count(min(prices, default=None))
                self.assertEqual(how_many_least(some, tree, cls), count)
                several += 1 < count < len(prices)
        self.assertGreater(several, 20)

    def test_up_to_the_bounds(self):
        some = table("r", ("r", ANY, 1000), ("r", ("sum", AT, AT), 1000), ("r", ("from", 0, MOST), 1000))
        for tree in (bushy(100), comb(40)):
            self.check(some, tree)
        chain = table("abcdef", *[(cls, ("at", hole), 1) for cls, hole in ("ab", "bc", "cd", "de", "ef")],
                      ("f", ("turn", ("at", "a")), 1), ("f", ANY, 1))
        told = least(chain, turned(A, 39), "a")
        self.assertEqual(len(told), 6 * 40)
        self.check(chain, turned(A, 39))

    def test_told_lists_are_the_askers_own(self):
        tree = ("sum", A, A)
        first, second = least(PLAIN, tree, "r"), least(PLAIN, tree, "r")
        self.assertEqual(first, [2, 0, 0])
        first.append(9)
        first[0] = 9
        self.assertEqual(second, [2, 0, 0])
        self.assertEqual(least(PLAIN, tree, "r"), [2, 0, 0])


if __name__ == "__main__":
    unittest.main()
