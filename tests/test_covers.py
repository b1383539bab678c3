import copy
import itertools
import random
import unittest

from rowsmith.covers import bears, is_cover, lies, price
from samples import (MOST, ODD_THINGS, PLAIN, deep_thing, name, num, plain_covers, plain_holes, plainly_lies,
                     random_pattern, random_table, random_tree, table, turned)

A = name("a")
AT = ("at", "r")
ANY = ("any",)


class TestLies(unittest.TestCase):
    def test_holes_lie_on_any_tree(self):
        for tree in (num(0), A, ("turn", A), ("sum", A, A), ("less", A, A), ("by", A, A)):
            self.assertIs(lies(AT, tree), True)

    def test_any_lies_on_names(self):
        self.assertIs(lies(ANY, name("a")), True)
        self.assertIs(lies(ANY, name("abcdefgh")), True)
        for tree in (num(0), ("turn", A), ("sum", A, A), ("less", A, A), ("by", A, A)):
            self.assertIs(lies(ANY, tree), False)

    def test_from_and_its_ends(self):
        for low, high in ((0, 0), (5, 9), (7, 7), (0, MOST), (MOST, MOST)):
            for number in (low, high, (low + high) // 2):
                self.assertIs(lies(("from", low, high), num(number)), True)
            for number in (low - 1, high + 1):
                self.assertIs(lies(("from", low, high), num(number)), False)
            for tree in (A, ("turn", num(low)), ("sum", num(low), num(low))):
                self.assertIs(lies(("from", low, high), tree), False)

    def test_each_sign(self):
        for word in ("sum", "less", "by"):
            for other in ("sum", "less", "by"):
                self.assertIs(lies((word, AT, AT), (other, A, A)), word == other)
            self.assertIs(lies((word, AT, AT), ("turn", A)), False)
            self.assertIs(lies(("turn", AT), (word, A, A)), False)
            self.assertIs(lies((word, AT, AT), A), False)
            self.assertIs(lies((word, AT, AT), num(1)), False)
            self.assertIs(lies((word, ANY, ("from", 1, 1)), (word, A, num(1))), True)
            self.assertIs(lies((word, ANY, ("from", 1, 1)), (word, num(1), A)), False)
            self.assertIs(lies((word, ANY, ANY), (word, A, num(1))), False)
            self.assertIs(lies((word, ANY, ANY), (word, num(1), A)), False)
        self.assertIs(lies(("turn", AT), ("turn", A)), True)
        self.assertIs(lies(("turn", ("turn", ANY)), ("turn", ("turn", A))), True)
        self.assertIs(lies(("turn", ("turn", ANY)), ("turn", A)), False)

    def test_bears_in_the_order_of_places(self):
        self.assertEqual(bears(("sum", ANY, ("from", 0, 9)), ("sum", A, num(7))), ("a", 7))
        self.assertEqual(bears(("sum", ("from", 0, 9), ANY), ("sum", num(7), A)), (7, "a"))
        self.assertEqual(bears(AT, A), ())
        self.assertEqual(bears(ANY, A), ("a",))
        self.assertEqual(bears(("from", 3, 3), num(3)), (3,))
        self.assertEqual(bears(("sum", AT, AT), ("sum", A, A)), ())
        self.assertEqual(bears(("by", ("less", ANY, AT), ("turn", ("sum", ("from", 0, MOST), ANY))),
                               ("by", ("less", name("b"), A), ("turn", ("sum", num(MOST), name("b"))))),
                         ("b", MOST, "b"))

    def test_random_patterns(self):
        chance = random.Random(6)
        found = {True: 0, False: 0}
        for step in range(4000):
            pattern, tree = random_pattern(chance, "ab", 3), random_tree(chance, 4)
            self.assertIs(lies(pattern, tree), plainly_lies(pattern, tree))
            found[lies(pattern, tree)] += 1
        self.assertGreater(min(found.values()), 400)


class TestIsCover(unittest.TestCase):
    def covers(self, tree, cls, good, bad, of=PLAIN):
        for thing in good:
            self.assertIs(is_cover(of, tree, cls, thing), True, thing)
        for thing in bad:
            self.assertIs(is_cover(of, tree, cls, thing), False, thing)

    def test_leaves(self):
        self.covers(A, "r", [[0]], [[], [1], [2], [0, 0], [6, 0], [5], [6], [6, 7, 0]])
        self.covers(num(9), "r", [[1]], [[0], []])
        self.covers(num(10), "r", [], [[1], [0], []])
        self.covers(A, "m", [[7, 0]], [[0], [7], [7, 1], [7, 6, 7, 0], [0, 7]])

    def test_several_holes(self):
        tree = ("sum", A, ("sum", num(1), ("turn", A)))
        self.covers(tree, "r", [[2, 0, 2, 1, 3, 0]],
                    [[2, 0, 2, 1, 3], [2, 0, 2, 1, 3, 0, 0], [2, 2, 1, 3, 0, 0], [2, 0, 2, 3, 0, 1], [2, 0, 2, 0, 3, 0],
                     [2, 0, 2, 1, 0, 3], [0, 2, 0, 2, 1, 3]])

    def test_holes_of_one_pattern_at_unlike_depths(self):
        tree = ("sum", ("by", A, ("by", A, num(2))), num(6))
        good = [[4, 0, 5, 0, 1], [2, 6, 5, 0, 6, 5, 0, 1, 1], [4, 0, 7, 6, 5, 0, 1]]
        self.covers(tree, "r", good[:2], good[2:] + [[4, 0, 5, 0], [4, 0, 5, 0, 1, 1], [4, 5, 0, 1, 0], [2, 5, 0, 1, 1]])
        self.covers(("sum", ("by", A, A), num(8)), "r", [[2, 6, 5, 0, 0, 1]], [[4, 0, 7, 0]])
        self.covers(("sum", ("by", A, A), num(7)), "r", [[2, 6, 5, 0, 0, 1], [4, 0, 7, 0]], [])

    def test_passes_through_a_class_twice(self):
        tree = ("by", A, A)
        self.covers(tree, "r", [[6, 5, 0, 0]], [[5, 0, 0], [6, 7, 6, 5, 0, 0]])
        self.covers(tree, "m", [[5, 0, 0]], [[7, 6, 5, 0, 0], [7, 6, 7, 6, 5, 0, 0]])
        ring = table("abc", ("a", ("at", "b"), 0), ("b", ("at", "c"), 0), ("c", ("at", "a"), 0), ("a", ANY, 1),
                     ("b", ANY, 1), ("c", ANY, 1))
        self.covers(A, "a", [[3], [0, 4], [0, 1, 5]], [[0, 1, 2, 3], [0, 1, 2, 0, 4], [0], [0, 1], [1, 5], [0, 3]],
                    ring)
        self.covers(A, "b", [[4], [1, 5], [1, 2, 3]], [[1, 2, 0, 4], [0, 4]], ring)

    def test_passes_begin_anew_below_a_tile(self):
        both = table("ab", ("a", ("at", "b"), 0), ("b", ("turn", ("at", "a")), 0), ("b", ANY, 0))
        self.covers(turned(A, 3), "a", [[0, 1, 0, 1, 0, 1, 0, 2]], [[0, 1, 0, 1, 0, 2], [1, 0, 1, 0, 1, 0, 2]], both)

    def test_other_things(self):
        tree = ("turn", A)
        self.assertIs(is_cover(PLAIN, tree, "r", [3, 0]), True)
        for thing in ((3, 0), [3, False], [3, -8], [3, 8], [3, 10 ** 59], [-5, 0], [3, None], [3, "0"], [3, [0]],
                      [[3, 0]], [3, (0,)], "30", {}, ["t", "t"], [3, 0, None], [3, 0, []], [None, 3, 0]):
            self.assertIs(is_cover(PLAIN, tree, "r", thing), False, thing)
        for thing in ODD_THINGS + [deep_thing(60, list), [0] * 200000, [3] * 200000, [0, 0]]:
            self.assertIs(is_cover(PLAIN, tree, "r", thing), False)

    def test_a_truth_for_a_number(self):
        two = table("r", ("r", ANY, 1), ("r", ("turn", AT), 1))
        self.assertIs(is_cover(two, ("turn", A), "r", [1, 0]), True)
        for thing in ([True, 0], [1, False], [True, False]):
            self.assertIs(is_cover(two, ("turn", A), "r", thing), False)

    def test_nothing_is_changed(self):
        thing = [2, 0, 0]
        self.assertIs(is_cover(PLAIN, ("sum", A, A), "r", thing), True)
        self.assertEqual(thing, [2, 0, 0])

    def test_all_short_lists_of_random_tables(self):
        chance = random.Random(7)
        found = 0
        for step in range(150):
            some, tree = random_table(chance, 7), random_tree(chance, chance.choice([1, 2, 2, 3]))
            for cls in some[0]:
                told = [list(one) for length in range(5) for one in itertools.product(range(7), repeat=length)
                        if is_cover(some, tree, cls, list(one))]
                plain = [cover for cover in plain_covers(some, tree, cls) if len(cover) < 5]
                self.assertEqual(sorted(told), sorted(plain))
                found += len(told)
        self.assertGreater(found, 80)

    def test_faults_in_covers_of_random_tables(self):
        chance = random.Random(8)
        for step in range(150):
            some, tree = random_table(chance, 9), random_tree(chance, 4)
            cls = chance.choice(some[0])
            plain = plain_covers(some, tree, cls)
            for cover in plain[:20]:
                self.assertIs(is_cover(some, tree, cls, cover), True)
                other = copy.copy(cover)
                other[chance.randrange(len(other))] = chance.randrange(9)
                self.assertIs(is_cover(some, tree, cls, other), other in plain)
                self.assertIs(is_cover(some, tree, cls, cover[:-1]), False)
                self.assertIs(is_cover(some, tree, cls, cover + [cover[-1]]), False)


class TestPrice(unittest.TestCase):
    def test_prices(self):
        self.assertEqual(price(PLAIN, [2, 0, 0]), 7)
        self.assertEqual(price(PLAIN, [4, 0, 7, 0]), 20)
        self.assertEqual(price(PLAIN, [0]), 2)

    def test_any_list_of_numbers(self):
        self.assertEqual(price(PLAIN, []), 0)
        self.assertEqual(price(PLAIN, [7, 7, 7]), 30)
        self.assertEqual(price(PLAIN, list(range(8))), 32)


class TestSamples(unittest.TestCase):
    def test_plain_holes(self):
        self.assertEqual(plain_holes(PLAIN[1][4][2], ("sum", ("by", A, num(1)), num(6))),
                         [((0, 0), "r", A), ((0, 1), "m", num(1))])


if __name__ == "__main__":
    unittest.main()
