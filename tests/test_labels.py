import random
import unittest

from rowsmith.covers import price
from rowsmith.labels import is_paper, labels
from rowsmith.tables import is_table
from rowsmith.trees import places, tree_at
from samples import (MOST, ODD_THINGS, PLAIN, bushy, comb, deep_thing, name, num, plain_bounds, plain_covers,
                     random_table, random_tree, table, turned)

A = name("a")
AT = ("at", "r")
ANY = ("any",)


def plain_label(some, tree):
    """The label of a tree, by all its covers."""
    found = [[price(some, cover) for cover in plain_covers(some, tree, cls)] for cls in some[0]]
    return tuple(min(prices) if prices else None for prices in found)


def plainly_paper(some, tree, paper):
    """Whether a list of the right form bears out, by the words of the document."""
    return all(number is not None and number <= cost + sum(below) for number, cost, below
               in plain_bounds(some, tree, paper))


class TestLabels(unittest.TestCase):
    def test_in_the_order_of_places(self):
        tree = ("sum", ("by", A, num(3)), num(6))
        self.assertEqual(labels(PLAIN, tree), [
            ((), (13, 23)), ((0,), (9, 8)), ((0, 0), (2, 12)), ((0, 1), (1, 11)), ((1,), (1, 11)),
        ])
        self.assertIsInstance(labels(PLAIN, tree), list)

    def test_none_where_there_is_no_cover(self):
        tree = ("sum", A, ("turn", num(10)))
        self.assertEqual(labels(PLAIN, tree), [
            ((), (None, None)), ((0,), (2, 12)), ((1,), (None, None)), ((1, 0), (None, None)),
        ])
        self.assertEqual(labels(PLAIN, ("less", A, A))[0], ((), (None, None)))

    def test_a_tile_over_several_pieces_may_be_the_only_one(self):
        some = table("r", ("r", ("sum", ANY, ("from", 1, 1)), 3))
        self.assertEqual(labels(some, ("sum", A, num(1))), [((), (3,)), ((0,), (None,)), ((1,), (None,))])

    def test_rings_and_chains_of_passes(self):
        ring = table("abc", ("a", ("at", "b"), 1), ("b", ("at", "c"), 2), ("c", ("at", "a"), 4), ("a", ANY, 10))
        self.assertEqual(labels(ring, A), [((), (10, 16, 14))])
        self.assertEqual(labels(ring, num(1)), [((), (None, None, None))])
        chain = table("abcdef", *[("abcde"[k], ("at", "bcdef"[k]), 1) for k in range(5)], ("f", ANY, 1))
        self.assertEqual(labels(chain, A), [((), (6, 5, 4, 3, 2, 1))])
        other_way = table("fedcba", *[("abcde"[k], ("at", "bcdef"[k]), 1) for k in range(4, -1, -1)], ("f", ANY, 1))
        self.assertEqual(labels(other_way, A), [((), (1, 2, 3, 4, 5, 6))])

    def test_a_dear_tile_and_cheap_passes(self):
        some = table("abc", ("a", ANY, 50), ("a", ("at", "b"), 20), ("a", ("at", "c"), 30), ("b", ("at", "c"), 1),
                     ("c", ANY, 3))
        self.assertEqual(labels(some, A), [((), (24, 4, 3))])

    def test_prices_of_nothing(self):
        free = table("ab", ("a", ("at", "b"), 0), ("b", ("at", "a"), 0), ("a", ANY, 0), ("a", ("sum", ("at", "a"),
                     ("at", "b")), 0), ("b", ("turn", ("at", "b")), 0))
        for tree in (A, bushy(100), ("turn", bushy(50)), turned(A, 39)):
            self.assertEqual({label for place, label in labels(free, tree)}, {(0, 0)})
        self.assertEqual(labels(free, num(0)), [((), (None, None))])

    def test_like_trees_have_like_labels(self):
        tree = ("sum", ("sum", A, A), ("sum", A, A))
        told = dict(labels(PLAIN, tree))
        self.assertEqual((told[(0,)], told[()]), (told[(1,)], (17, 27)))

    def test_up_to_the_bounds(self):
        passes = [(cls, ("at", hole), 1000) for cls in "abcdef" for hole in "abcdef" if cls != hole]
        tiles = [("a", ANY, 1000), ("b", ("from", 0, MOST), 1000)]
        tiles += [(cls, ("sum", ("at", cls), ("at", cls)), 1000) for cls in "abcdef"]
        tiles += [("c", ("turn", ("at", "a")), 1000)]
        full = table("abcdef", *(passes + tiles))
        self.assertTrue(is_table(full))
        told = labels(full, bushy(100))
        self.assertEqual((told[0], len(told)), (((), (199000,) + (200000,) * 5), 199))
        deep = labels(full, comb(40))
        self.assertEqual((len(deep), [place for place, label in deep]), (79, places(comb(40))))
        self.assertEqual(labels(full, turned(A, 39))[0][1], (79000, 79000, 78000, 79000, 79000, 79000))
        self.assertTrue(is_paper(full, bushy(100), told))

    def test_forty_large_patterns(self):
        wide = ("sum", ("sum", ("sum", ("sum", AT, ANY), ANY), ANY), ANY)
        full = table("r", *[("r", wide, k + 1) for k in range(39)], ("r", ANY, 5))
        tree = A
        for step in range(36):
            tree = ("sum", tree, A)
        self.assertEqual(labels(full, tree)[0], ((), (9 + 5,)))
        self.assertEqual(labels(full, tree[1])[0], ((), (None,)))

    def test_random_tables(self):
        chance = random.Random(10)
        for step in range(250):
            some, tree = random_table(chance, chance.randrange(6, 11)), random_tree(chance, 4)
            told = labels(some, tree)
            self.assertEqual([place for place, label in told], places(tree))
            self.assertEqual(told, [(place, plain_label(some, tree_at(tree, place))) for place in places(tree)])

    def test_told_lists_are_the_askers_own(self):
        tree = ("sum", A, A)
        first = labels(PLAIN, tree)
        kept = list(first)
        first.pop()
        first[0] = None
        self.assertEqual(labels(PLAIN, tree), kept)


class TestPapers(unittest.TestCase):
    tree = ("sum", ("by", A, num(3)), num(6))
    right = [((), (13, 23)), ((0,), (9, 8)), ((0, 0), (2, 12)), ((0, 1), (1, 11)), ((1,), (1, 11))]

    def told(self, thing, tree=None, some=PLAIN):
        return is_paper(some, self.tree if tree is None else tree, thing)

    def changed(self, at, numbers):
        return [(place, numbers if place == at else had) for place, had in self.right]

    def test_the_labels_in_any_order(self):
        self.assertIs(self.told(self.right), True)
        self.assertIs(self.told(self.right[::-1]), True)
        self.assertIs(self.told(self.right[2:] + self.right[:2]), True)

    def test_lesser_numbers(self):
        self.assertIs(self.told([(place, (0, 0)) for place, had in self.right]), True)
        self.assertIs(self.told([(place, (-5, -4)) for place, had in self.right]), False)
        self.assertIs(self.told([(place, (-(10 ** 59), -(10 ** 59))) for place, had in self.right]), False)
        self.assertIs(self.told(self.changed((), (-7, -3))), True)
        self.assertIs(self.told(self.changed((), (-7, 4))), False)
        self.assertIs(self.told(self.changed((), (12, 22))), True)
        # A lesser number below lowers what may stand above.
        self.assertIs(self.told(self.changed((1,), (0, 10))), False)
        self.assertIs(self.told(self.changed((), (12, 22))[:4] + [((1,), (0, 10))]), True)
        self.assertIs(self.told(self.changed((0, 0), (1, 11))), False)
        self.assertIs(self.told(self.changed((0, 1), (1, 10))), True)

    def test_a_number_one_too_great(self):
        for place, had in self.right:
            for k in range(2):
                numbers = tuple(number + (k == j) for j, number in enumerate(had))
                self.assertIs(self.told(self.changed(place, numbers)), False, (place, k))

    def test_none_where_there_is_a_cover(self):
        for place, had in self.right:
            for numbers in ((None, had[1]), (had[0], None), (None, None)):
                self.assertIs(self.told(self.changed(place, numbers)), False, (place, numbers))

    def test_a_number_where_there_is_no_cover(self):
        tree = ("sum", A, num(10))
        right = [((), (None, None)), ((0,), (2, 12)), ((1,), (None, None))]
        self.assertIs(self.told(right, tree), True)
        # No tile lies on 10 but the passes: any number holds for r, if that for m is no more than 10 above, and back.
        for numbers, whole, good in (((100, 110), (105, 115), True), ((100, 111), (None, None), False),
                                     ((101, 100), (106, 116), True), ((102, 100), (None, None), False),
                                     ((100, 110), (106, 115), False), ((100, 110), (105, 116), False),
                                     ((0, 0), (None, None), False), ((None, 0), (None, None), False),
                                     ((0, None), (None, None), False), ((-7, -7), (-2, 0), True)):
            self.assertIs(self.told([((), whole), ((0,), (2, 12)), ((1,), numbers)], tree), good, numbers)
        bare = table("r", ("r", ANY, 1), ("r", ("turn", AT), 1))
        for number in (None, 0, 10 ** 59, -(10 ** 59)):
            self.assertIs(self.told([((), (number,))], num(1), bare), True)
        self.assertIs(self.told([((), (10 ** 59,)), ((0,), (10 ** 59 - 1,))], ("turn", num(1)), bare), True)
        self.assertIs(self.told([((), (10 ** 59,)), ((0,), (10 ** 59 - 2,))], ("turn", num(1)), bare), False)
        self.assertIs(self.told([((), (7,)), ((0,), (None,))], ("turn", num(1)), bare), True)
        self.assertIs(self.told([((), (None,)), ((0,), (7,))], ("turn", num(1)), bare), False)

    def test_places(self):
        for k in range(5):
            self.assertIs(self.told(self.right[:k] + self.right[k + 1:]), False)
            self.assertIs(self.told(self.right + [self.right[k]]), False)
            self.assertIs(self.told(self.right[:k] + self.right[k + 1:] + [self.right[k - 1]]), False)
        for place in ((2,), (1, 0), (0, 2), (-1,), (0, 0, 0), (10 ** 59,)):
            self.assertIs(self.told(self.right[:4] + [(place, (1, 11))]), False, place)
            self.assertIs(self.told(self.right + [(place, (1, 11))]), False, place)
        self.assertIs(self.told([]), False)

    def test_truths(self):
        self.assertIs(self.told(self.right[:4] + [((True,), (1, 11))]), False)
        self.assertIs(self.told(self.changed((0,), (9, 8))[:1] + [((False,), (9, 8))] + self.right[2:]), False)
        self.assertIs(self.told(self.right[:3] + [((0, True), (1, 11)), ((1,), (1, 11))]), False)
        self.assertIs(self.told(self.changed((1,), (True, 11))), False)
        self.assertIs(self.told(self.changed((), (12, 22))[:4] + [((1,), (False, 10))]), False)
        low = [(place, (0, 0)) for place, had in self.right]
        self.assertIs(self.told(low), True)
        for k in range(5):
            for numbers in ((0, False), (False, 0), (True, 0), (0, True)):
                self.assertIs(self.told(low[:k] + [(low[k][0], numbers)] + low[k + 1:]), False)

    def test_forms(self):
        self.assertIs(self.told(tuple(self.right)), False)
        for numbers in ((1,), (1, 11, 0), [1, 11], (), None, 1, "ab", (1, "11"), (1, (11,)), (1, [11]), ("", 11)):
            self.assertIs(self.told(self.changed((1,), numbers)), False, numbers)
        for entry in (((1,),), ((1,), (1, 11), 0), [(1,), (1, 11)], ([1], (1, 11)), (1, (1, 11)), (None, (1, 11)),
                      ((1, 11), (1,)), None, True, 1, "a", (), [], (((1,),), (1, 11)), (([1],), (1, 11)),
                      (("1",), (1, 11)), ((None,), (1, 11))):
            self.assertIs(self.told(self.right[:4] + [entry]), False, entry)
        for thing in ODD_THINGS + [deep_thing(60), deep_thing(60, list), [((), (0, 0))] * 60000, [()] * 200000]:
            self.assertIs(self.told(thing), False)
            self.assertIs(self.told(thing, A), False)

    def test_nothing_is_changed_or_kept(self):
        thing = list(self.right)
        self.assertIs(self.told(thing), True)
        self.assertEqual(thing, self.right)
        thing[0] = ((), (14, 23))
        self.assertIs(self.told(thing), False)

    def test_up_to_the_bounds(self):
        some = table("r", ("r", ANY, 1000), ("r", ("sum", AT, AT), 1000), ("r", ("from", 0, MOST), 1))
        for tree in (bushy(100), comb(40)):
            paper = labels(some, tree)
            self.assertIs(self.told(paper, tree, some), True)
            self.assertIs(self.told([((), (paper[0][1][0] + 1,))] + paper[1:], tree, some), False)
            self.assertIs(self.told([((), (paper[0][1][0] - 1,))] + paper[1:], tree, some), True)

    def test_random_papers(self):
        chance = random.Random(11)
        found = {True: 0, False: 0}
        for step in range(1500):
            some, tree = random_table(chance, chance.randrange(6, 11)), random_tree(chance, 3)
            paper = labels(some, tree)
            chance.shuffle(paper)
            for change in range(chance.randrange(3)):
                k = chance.randrange(len(paper))
                numbers = [chance.choice([number, number, None, 0 if number is None else number + chance.choice([-1, 1])])
                           for number in paper[k][1]]
                paper[k] = (paper[k][0], tuple(numbers))
            told = is_paper(some, tree, paper)
            self.assertIs(told, plainly_paper(some, tree, paper))
            found[told] += 1
            if told:
                for number, least in zip(dict(paper)[()], plain_label(some, tree)):
                    self.assertTrue(least is None or (number is not None and number <= least))
        self.assertGreater(min(found.values()), 200)


if __name__ == "__main__":
    unittest.main()
