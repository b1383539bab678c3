import itertools
import random
import unittest

from rowsmith.cells import is_thrift, need, rows_of, thrift_paper, thrifty
from rowsmith.counts import all_covers, how_many
from rowsmith.covers import is_cover, price
from rowsmith.labels import labels
from rowsmith.rows import behind, cell_words
from rowsmith.tables import is_table
from rowsmith.trees import places, tree_at
from samples import (MOST, ODD_THINGS, bare_table, bushy, comb, deep_thing, name, num, plain_bounds, plain_covers,
                     random_table, random_tree, table, turned)

A = name("a")
AT = ("at", "r")
ANY = ("any",)
FOUR = ("by", ("by", AT, AT), ("by", AT, AT))
THREE = ("less", AT, ("less", AT, AT))
# 0 a name, 1 one hole, 2 two, 3 three, 4 four; 5 and 6 passes; 7 a number and a hole.
HOLES = table("rm", ("r", ANY, 1), ("r", ("turn", AT), 1), ("r", ("sum", AT, AT), 1), ("r", THREE, 1), ("r", FOUR, 1),
              ("m", AT, 1), ("r", ("at", "m"), 1), ("r", ("sum", ("from", 0, 9), AT), 1))


def plain_need(some, cover):
    """The need of a cover, by the words of the document; gives back also what is left of the list."""
    tile, rest = some[1][cover[0]], cover[1:]
    needs = []
    for hole in range(str(tile[2]).count("'at'")):
        below, rest = plain_need(some, rest)
        needs.append(below)
    needs.sort(reverse=True)
    return max([1] + [needs[k] + k for k in range(len(needs))]), rest


def least_by_trying(some, cover):
    """The least number of cells for a cover, over all orders in which its tiles can be done."""
    above, waiting = [], []
    for number, tile in enumerate(cover):
        above.append(waiting.pop() if waiting else None)
        waiting += [number] * str(some[1][tile][2]).count("'at'")
    below = [frozenset(k for k in range(len(cover)) if above[k] == number) for number in range(len(cover))]
    reached = {(frozenset(), frozenset()): 0}
    for step in range(len(cover)):
        further = {}
        for (done, full), most in reached.items():
            for number in range(len(cover)):
                if number not in done and below[number] <= full:
                    left = (full - below[number]) | {number}
                    key = (done | {number}, left)
                    further[key] = min(further.get(key, 99), max(most, len(left)))
        reached = further
    return min(reached.values())


def most_full(rows):
    """How many cells are full at once, most, behind a row."""
    full, most = set(), 0
    for tile, borne, taken, to in rows:
        full = full - set(taken) | {to}
        most = max(most, len(full))
    return most


class TestNeed(unittest.TestCase):
    def test_by_hand(self):
        for cover, cells in (([0], 1), ([1, 0], 1), ([1, 1, 0], 1), ([2, 0, 0], 2), ([7, 0], 1), ([5, 0], 1),
                             ([3, 0, 0, 0], 3), ([4, 0, 0, 0, 0], 4), ([2, 2, 0, 0, 0], 2), ([2, 0, 2, 0, 0], 2),
                             ([2, 2, 0, 0, 2, 0, 0], 3), ([2, 1, 2, 0, 0, 2, 0, 0], 3), ([1, 4, 0, 0, 0, 0], 4),
                             ([3, 2, 0, 0, 0, 0], 3), ([3, 0, 0, 2, 0, 0], 3), ([3, 2, 0, 0, 2, 0, 0, 0], 3),
                             ([3] + [2, 0, 0] * 3, 4), ([4] + [2, 0, 0] * 4, 5), ([4] + [3, 0, 0, 0] * 4, 6),
                             ([4, 0, 4, 0, 0, 0, 0, 0, 0], 4), ([4, 3, 0, 0, 0, 0, 2, 0, 0, 0], 4),
                             ([4] + [4, 0, 0, 0, 0] * 4, 7), ([6, 5, 2, 0, 0], 2)):
            self.assertEqual(need(HOLES, cover), cells, cover)

    def test_by_trying_all_orders(self):
        chance = random.Random(111)
        counts = {}
        for step in range(150):
            tree = random_holes(chance, chance.randrange(2, 5))
            cover = all_covers(HOLES, tree, "r")[0] if 0 < how_many(HOLES, tree, "r") <= 200 else None
            if cover and len(cover) <= 10:
                self.assertEqual(need(HOLES, cover), least_by_trying(HOLES, cover))
                counts[need(HOLES, cover)] = counts.get(need(HOLES, cover), 0) + 1
        self.assertGreaterEqual(set(counts), {1, 2, 3, 4})

    def test_random_covers(self):
        chance = random.Random(112)
        for step in range(100):
            some, tree = random_table(chance, chance.randrange(6, 12)), random_tree(chance, 5)
            for cls in some[0]:
                if how_many(some, tree, cls) <= 200:
                    for cover in all_covers(some, tree, cls):
                        self.assertEqual(need(some, cover), plain_need(some, cover)[0])

    def test_nothing_is_changed(self):
        cover = [2, 2, 0, 0, 0]
        self.assertEqual(need(HOLES, cover), 2)
        self.assertEqual(cover, [2, 2, 0, 0, 0])


def random_holes(chance, depth):
    """A tree that the tiles with several holes lie on."""
    kind = chance.randrange(5) if depth > 1 else 0
    if kind == 0:
        return A
    parts = [random_holes(chance, depth - 1) for part in range(4)]
    if kind == 1:
        return ("turn", parts[0])
    if kind == 2:
        return ("sum", parts[0], parts[1])
    if kind == 3:
        return ("less", parts[0], ("less", parts[1], parts[2]))
    return ("by", ("by", parts[0], parts[1]), ("by", parts[2], parts[3]))


class TestRowsOf(unittest.TestCase):
    def check(self, some, tree, cls, cover):
        rows = rows_of(some, tree, cover)
        self.assertIsInstance(rows, list)
        self.assertEqual(len(rows), len(cover))
        told = behind(some, rows)
        self.assertEqual([had[1:] for had in told], [(cls, tree)])
        self.assertEqual([word for cell, word in cell_words(some, rows)], [cover])
        self.assertLessEqual(most_full(rows), need(some, cover))
        self.assertTrue(all(0 <= row[3] < need(some, cover) for row in rows), rows)
        return rows

    def test_by_hand(self):
        self.assertEqual(rows_of(HOLES, A, [0]), [(0, ("a",), (), 0)])
        tree = ("sum", num(7), name("b"))
        self.assertEqual(rows_of(HOLES, tree, [7, 0]), [(0, ("b",), (), 0), (7, (7,), (0,), 0)])
        self.check(HOLES, ("sum", A, name("b")), "r", [2, 0, 0])
        self.check(HOLES, A, "m", [5, 0])
        self.check(HOLES, A, "r", [6, 5, 0])

    def test_holes_of_all_needs_in_all_orders(self):
        parts = [(A, [0]), (("sum", A, name("b")), [2, 0, 0]), (("less", A, ("less", name("b"), A)), [3, 0, 0, 0]),
                 (("turn", ("sum", name("c"), A)), [1, 2, 0, 0])]
        for four in itertools.product(parts, repeat=4):
            trees, covers = [tree for tree, cover in four], [cover for tree, cover in four]
            tree = ("by", ("by", trees[0], trees[1]), ("by", trees[2], trees[3]))
            self.check(HOLES, tree, "r", [4] + covers[0] + covers[1] + covers[2] + covers[3])

    def test_random_covers(self):
        chance = random.Random(113)
        done = 0
        for step in range(150):
            some, tree = random_table(chance, chance.randrange(6, 12)), random_tree(chance, 5)
            for cls in some[0]:
                if how_many(some, tree, cls) <= 200:
                    for cover in all_covers(some, tree, cls)[:20]:
                        self.check(some, tree, cls, cover)
                        done += 1
        self.assertGreater(done, 150)

    def test_two_hundred_pieces_and_forty_within(self):
        some = table("r", ("r", ANY, 1), ("r", ("sum", AT, AT), 1), ("r", ("turn", AT), 1), ("r", ("from", 0, MOST), 1))
        for tree, cells in ((("turn", bushy(100)), 7), (comb(40), 2), (turned(A, 39), 1)):
            cover = all_covers(some, tree, "r")[0]
            self.assertEqual(need(some, cover), cells)
            self.check(some, tree, "r", cover)
        # Five passes at each piece.
        chain = table("abcdef", *[(cls, ("at", hole), 1) for cls, hole in ("ab", "bc", "cd", "de", "ef")],
                      ("f", ("sum", ("at", "a"), ("at", "a")), 1), ("f", ("turn", ("at", "a")), 1), ("f", ANY, 1))
        for tree, count in ((("turn", bushy(100)), 1200), (turned(A, 39), 240)):
            cover = thrifty(chain, tree, "a")[2]
            self.assertEqual(len(cover), count)
            self.check(chain, tree, "a", cover)

    def test_told_lists_are_the_askers_own(self):
        cover = [2, 0, 0]
        first, second = rows_of(HOLES, ("sum", A, A), cover), rows_of(HOLES, ("sum", A, A), cover)
        kept = list(second)
        first.clear()
        self.assertEqual((cover, second), ([2, 0, 0], kept))


class TestThrifty(unittest.TestCase):
    def check(self, some, tree):
        """That each class has a thrifty cover; gives back how many have covers that are not, for the same price."""
        wasteful = 0
        for cls, number in zip(some[0], labels(some, tree)[0][1]):
            told = thrifty(some, tree, cls)
            if number is None:
                self.assertIsNone(told)
                continue
            self.assertIsInstance(told, tuple)
            self.assertEqual(len(told), 3)
            self.assertIs(is_cover(some, tree, cls, told[2]), True)
            self.assertEqual(told[:2], (price(some, told[2]), need(some, told[2])))
            self.assertEqual(told[0], number)
            if how_many(some, tree, cls) <= 500:
                needs = [need(some, cover) for cover in plain_covers(some, tree, cls) if price(some, cover) == number]
                self.assertEqual(told[1], min(needs))
                wasteful += max(needs) > min(needs)
        return wasteful

    def test_by_hand(self):
        tree = ("sum", A, ("sum", A, A))
        self.assertEqual(thrifty(HOLES, A, "r"), (1, 1, [0]))
        self.assertEqual(thrifty(HOLES, A, "m"), (2, 1, [5, 0]))
        self.assertEqual(thrifty(HOLES, tree, "r"), (5, 2, [2, 0, 2, 0, 0]))
        self.assertIsNone(thrifty(HOLES, num(1), "r"))
        self.assertEqual(thrifty(HOLES, ("sum", num(1), A), "r"), (2, 1, [7, 0]))

    def test_price_goes_ahead_of_need(self):
        # The sum of a name by one tile needs one cell, by two tiles two.
        for cost, told in ((1, (1, 1, [0])), (4, (4, 1, [0])), (5, (5, 1, [0])), (6, (5, 2, [1, 2, 2]))):
            some = table("r", ("r", ("sum", ANY, ANY), cost), ("r", ("sum", AT, AT), 3), ("r", ANY, 1))
            self.assertEqual(thrifty(some, ("sum", A, A), "r"), told)
            self.check(some, bushy(8))

    def test_passes(self):
        # Through passes for nothing the thriftier tile of another class comes to be used.
        for order in itertools.permutations(range(6)):
            tiles = [("a", ("sum", ("at", "a"), ("at", "a")), 3), ("a", ANY, 1), ("b", ("sum", ANY, ANY), 5),
                     ("a", ("at", "c"), 0), ("c", ("at", "b"), 0), ("b", ("at", "a"), 0)]
            some = table("abc", *[tiles[k] for k in order])
            self.assertEqual([thrifty(some, ("sum", A, A), cls)[:2] for cls in "abc"], [(5, 1)] * 3)
            self.check(some, ("sum", A, A))

    def test_random_tables(self):
        chance = random.Random(114)
        wasteful = 0
        for step in range(300):
            some = chance.choice([random_table, bare_table])(chance, chance.randrange(6, 41))
            wasteful += self.check(some, random_tree(chance, 4))
        for step in range(200):
            tree = random_holes(chance, 4)
            tiles = [tile[1:3] + (chance.randrange(3),) for tile in HOLES[1]]
            tiles += [("r", ("sum", ANY, AT), chance.randrange(3)), ("r", ("less", AT, AT), chance.randrange(3)),
                      ("r", ("by", AT, AT), chance.randrange(3))]
            wasteful += self.check(table("rm", *tiles), tree)
        self.assertGreater(wasteful, 30)

    def test_told_lists_are_the_askers_own(self):
        first, second = thrifty(HOLES, A, "m"), thrifty(HOLES, A, "m")
        first[2].append(7)
        self.assertEqual(second, (2, 1, [5, 0]))
        paper = thrift_paper(HOLES, A)
        paper.clear()
        self.assertEqual(thrift_paper(HOLES, A), [((), ((1, 1), (2, 1)))])


def plainly_thrift(some, tree, paper):
    """Whether a list of the right form bears out, by the words of the document."""
    for pair, cost, below in plain_bounds(some, tree, paper):
        needs = sorted((had[1] for had in below), reverse=True)
        bound = (cost + sum(had[0] for had in below), max([1] + [most + k for k, most in enumerate(needs)]))
        if pair is None or pair[0] > bound[0] or (pair[0] == bound[0] and pair[1] > bound[1]):
            return False
    return True


class TestPaper(unittest.TestCase):
    def setUp(self):
        self.tree = ("sum", ("turn", A), ("sum", num(3), A))
        self.right = [((), ((5, 2), (6, 2))), ((0,), ((2, 1), (3, 1))), ((0, 0), ((1, 1), (2, 1))),
                      ((1,), ((2, 1), (3, 1))), ((1, 0), (None, None)), ((1, 1), ((1, 1), (2, 1)))]

    def told(self, thing, tree=None, some=HOLES):
        return is_thrift(some, self.tree if tree is None else tree, thing)

    def changed(self, at, pairs):
        """The right paper with other pairs at a place."""
        return [(place, pairs if place == at else had) for place, had in self.right]

    def test_the_told_paper(self):
        self.assertEqual(thrift_paper(HOLES, self.tree), self.right)
        self.assertIsInstance(thrift_paper(HOLES, self.tree), list)
        self.assertIs(self.told(self.right), True)
        chance = random.Random(115)
        for step in range(150):
            some = chance.choice([random_table, bare_table])(chance, chance.randrange(6, 14))
            tree = random_tree(chance, 4)
            paper = thrift_paper(some, tree)
            self.assertEqual([place for place, pairs in paper], places(tree))
            self.assertIs(self.told(paper, tree, some), True)
            for place, pairs in paper:
                told = [thrifty(some, tree_at(tree, place), cls) for cls in some[0]]
                self.assertEqual(pairs, tuple(had and had[:2] for had in told))

    def test_any_order(self):
        self.assertIs(self.told(self.right[::-1]), True)
        self.assertIs(self.told(self.right[3:] + self.right[:3]), True)

    def test_one_number_changed(self):
        for place, had in self.right:
            for k in range(2):
                if had[k] is None:
                    continue
                for pair in ((had[k][0] + 1, had[k][1]), (had[k][0], had[k][1] + 1), (had[k][0] + 1, 0)):
                    pairs = tuple(pair if j == k else had[j] for j in range(2))
                    self.assertIs(self.told(self.changed(place, pairs)), False, (place, pair))
        # Less is no fault at the whole, as long as the passes hold; by prices first.
        for pairs, good in ((((5, 1), (6, 1)), True), (((5, 2), (6, 1)), True), (((5, 1), (6, 2)), False),
                            (((4, 99), (5, 99)), True), (((4, 99), (5, 100)), False), (((4, 2), (6, 2)), False),
                            (((5, 0), (6, 0)), True), (((5, -7), (6, -7)), True), (((-3, 10 ** 59), (-2, 2)), True),
                            (((0, 0), (0, 0)), True), (((5, 2), (5, 99)), True), (((6, 0), (6, 0)), False),
                            (((1, 1), (0, 99)), True), (((2, 1), (0, 99)), False)):
            self.assertIs(self.told(self.changed((), pairs)), good, pairs)
        # A lesser need below lets only less above; a need of less than 1 goes for 1 through a tile.
        self.assertIs(self.told(self.changed((1, 1), ((1, 0), (2, 0)))), True)
        self.assertIs(self.told(self.changed((1, 1), ((1, 0), (2, 1)))), True)
        self.assertIs(self.told(self.changed((1, 1), ((1, -5), (2, 1)))), True)
        self.assertIs(self.told(self.changed((1, 1), ((1, -5), (2, 2)))), False)
        self.assertIs(self.told(self.changed((0, 0), ((0, 5), (1, 5)))), False)

    def test_needs_by_all_holes(self):
        tree = ("by", ("by", A, A), ("by", A, A))
        leaf = ((1, 1), (2, 1))
        for cells in range(1, 7):
            paper = [((), ((5, cells), (6, cells))), ((0,), (None, None)), ((0, 0), leaf), ((0, 1), leaf),
                     ((1,), (None, None)), ((1, 0), leaf), ((1, 1), leaf)]
            self.assertIs(self.told(paper, tree), cells <= 4, cells)

    def test_none_and_pairs(self):
        for place, had in self.right:
            if had[0] is not None:
                for pairs in ((None, had[1]), (had[0], None), (None, None)):
                    self.assertIs(self.told(self.changed(place, pairs)), False, (place, pairs))
        # Where no tile lies but the passes, pairs stand if these hold; then more may lie above.
        self.assertIs(self.told(self.changed((1, 0), ((9, 1), (10, 1)))), True)
        self.assertIs(self.told(self.changed((1, 0), ((9, 1), (10, 2)))), False)
        self.assertIs(self.told(self.changed((1, 0), ((9, 1), None))), False)
        self.assertIs(self.told(self.changed((1, 0), (None, (9, 1)))), False)
        self.assertIs(self.told(self.changed((1, 0), ((0, 1), (1, 1)))), True)
        self.assertIs(self.told(self.changed((1, 0), ((-1, 1), (0, 1)))), False)
        self.assertIs(self.told(self.changed((1, 0), ((11, 1), (9, 1)))), False)
        self.assertIs(self.told(self.changed((1, 0), ((10, 1), (9, 1)))), True)

    def test_left_out_and_doubled(self):
        for k, entry in enumerate(self.right):
            rest = self.right[:k] + self.right[k + 1:]
            self.assertIs(self.told(rest), False)
            self.assertIs(self.told(self.right + [entry]), False)
            self.assertIs(self.told(rest + [self.right[k - 1]]), False)
            for place in ((2,), (0, 1), (-1,), (1, 1, 0), (10 ** 59,)):
                self.assertIs(self.told(rest + [(place, entry[1])]), False)
                self.assertIs(self.told(self.right + [(place, entry[1])]), False)
        self.assertIs(self.told([]), False)

    def test_truths(self):
        low = [(place, ((0, 0), (0, 0))) for place, had in self.right]
        self.assertIs(self.told(low), True)
        for k, (place, had) in enumerate(low):
            for pair in ((False, 0), (0, False), (True, 0), (0, True), True, False, (True, True)):
                for pairs in ((pair, (0, 0)), ((0, 0), pair)):
                    self.assertIs(self.told(low[:k] + [(place, pairs)] + low[k + 1:]), False, pairs)
        self.assertIs(self.told(self.right[:1] + [((False,), self.right[1][1])] + self.right[2:]), False)
        self.assertIs(self.told(self.right[:5] + [((1, True), self.right[5][1])]), False)

    def test_forms(self):
        self.assertIs(self.told(tuple(self.right)), False)
        for pairs in (((1, 1),), ((1, 1), (2, 1), (2, 1)), [(1, 1), (2, 1)], ((1, 1), [2, 1]), ((1, 1), (2,)), (1, 1),
                      ((1, 1), (2, 1, 1)), ((1, 1), 2), ((1, 1), ()), ((1, 1), (2, None)), ((1, 1), (None, 1)),
                      ((1, 1), ("2", 1)), ((1, 1), "ab"), ((1, 1), ((2,), 1)), None, (), 1):
            self.assertIs(self.told(self.changed((1, 1), pairs)), False, pairs)
        had = self.right[5][1]
        for entry in (((1, 1),), ((1, 1), had, 0), [(1, 1), had], ([1, 1], had), (1, had), (None, had), (had, (1, 1)), None,
                      True, 1, "a", (), [], (("1", 1), had), ((None, 1), had), (((1,), 1), had), (([1], 1), had)):
            self.assertIs(self.told(self.right[:5] + [entry]), False, entry)
        for thing in ODD_THINGS + [deep_thing(60), deep_thing(60, list), [((), ((0, 0), (0, 0)))] * 20000, [()] * 200000]:
            self.assertIs(self.told(thing), False)
            self.assertIs(self.told(thing, A), False)
        self.assertIs(self.told(labels(HOLES, self.tree)), False)
        self.assertIs(self.told([((), (1, 2))], A), False)
        self.assertIs(self.told([((), ((1, 1), (2, 1)))], A), True)

    def test_nothing_is_changed_or_kept(self):
        thing = list(self.right)
        self.assertIs(self.told(thing), True)
        self.assertEqual(thing, self.right)
        thing[0] = ((), ((6, 2), (7, 2)))
        self.assertIs(self.told(thing), False)

    def test_up_to_the_bounds(self):
        some = table("r", ("r", ANY, 1000), ("r", ("sum", AT, AT), 1000), ("r", ("from", 0, MOST), 1))
        self.assertTrue(is_table(some))
        for tree in (bushy(100), comb(40)):
            paper = thrift_paper(some, tree)
            cost, cells = paper[0][1][0]
            self.assertIs(self.told(paper, tree, some), True)
            self.assertEqual(thrifty(some, tree, "r")[:2], (cost, cells))
            for pair, good in (((cost, cells + 1), False), ((cost + 1, 1), False), ((cost - 1, 99), True)):
                self.assertIs(self.told([((), (pair,))] + paper[1:], tree, some), good)

    def test_bent_at_random(self):
        chance = random.Random(116)
        found = {True: 0, False: 0}
        for step in range(1000):
            some, tree = random_table(chance, chance.randrange(6, 11)), random_tree(chance, 3)
            paper = thrift_paper(some, tree)
            chance.shuffle(paper)
            for change in range(chance.randrange(3)):
                k = chance.randrange(len(paper))
                pairs = []
                for pair in paper[k][1]:
                    cost, cells = pair or (0, 1)
                    pairs.append(chance.choice([pair, pair, None, (cost + chance.choice([-1, 0, 1]),
                                                                   cells + chance.choice([-1, 0, 1]))]))
                paper[k] = (paper[k][0], tuple(pairs))
            told = is_thrift(some, tree, paper)
            self.assertIs(told, plainly_thrift(some, tree, paper))
            found[told] += 1
        self.assertGreater(min(found.values()), 200)


if __name__ == "__main__":
    unittest.main()
