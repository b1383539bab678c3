import itertools
import random
import unittest

from rowsmith.columns import columns
from rowsmith.counts import how_many
from rowsmith.errors import TooMany
from rowsmith.gaps import all_sets, are_sets, gap, is_gap
from rowsmith.trees import pieces
from rowsmith.webs import is_web, open_last, opened
from samples import (MOST, ODD_THINGS, PLAIN, bare_table, bushy, check_refused, deep_thing, leaves_for, name, num, piece,
                     plain_holes, plainly_lies, plainly_opened, random_table, random_tree, table, trees_of, turned)

A = name("a")
AT = ("at", "r")
ANY = ("any",)
# Names, and numbers from 3 to 5; sums; turns of turns. Columns: r, the turn within.
SPARSE = table("r", ("r", ANY, 1), ("r", ("from", 3, 5), 1), ("r", ("sum", AT, AT), 1),
               ("r", ("turn", ("turn", AT)), 1))
# Each tree has a cover for r, some have one for m.
FULL = table("rm", ("r", ANY, 1), ("r", ("from", 0, MOST), 1), ("r", ("sum", AT, AT), 1), ("r", ("turn", AT), 1),
             ("r", ("less", AT, AT), 2), ("r", ("by", AT, AT), 3), ("m", ("turn", ("turn", AT)), 1))


def plain_set(some, tree):
    """The set of a tree, reckoned by covers."""
    found = []
    for column in columns(some):
        if isinstance(column, str):
            found.append(how_many(some, tree, column) > 0)
        else:
            found.append(plainly_lies(column, tree) and all(how_many(some, part, cls) > 0 for place, cls, part
                                                            in plain_holes(column, tree)))
    return tuple(found)


def some_leaves(some):
    """For each set that a leaf may have one leaf."""
    found = {}
    for leaf in leaves_for(some):
        found.setdefault(plain_set(some, leaf), leaf)
    return list(found.values())


def wide_table(*more):
    """A table by which just 200 sets come: six for each tile, one for whatever it lies on, one for all else."""
    tiles = []
    for k in range(0, 4 * 33, 4):
        ends = [("from", k + step, k + step) for step in range(4)]
        tiles.append(("r", ("by", ("sum", ends[0], ends[1]), ("sum", ends[2], ends[3])), 1))
    return table("r", *tiles, *more)


class Checked(unittest.TestCase):
    def check_sets(self, some, told):
        """That a told web and its sets are right as far as small trees show it."""
        web, sets = told
        self.assertTrue(is_web(web))
        self.assertIsInstance(sets, list)
        self.assertEqual(len(sets), len(web))
        self.assertEqual(len(set(sets)), len(sets))
        for number, tree in enumerate(web):
            self.assertTrue(tree[0] in ("num", "name") or all(part[0] == "piece" for part in tree[1:]), tree)
            self.assertTrue(all(isinstance(truth, bool) for truth in sets[number]))
            if opened(web)[number] <= 200:
                self.assertEqual(plain_set(some, plainly_opened(web, number)), sets[number])
        self.assertIs(are_sets(some, told), True)

    def refused(self, ask, *asked, **named):
        check_refused(self, TooMany, ask, *asked, **named)


class TestAllSets(Checked):
    def test_by_hand(self):
        self.check_sets(SPARSE, all_sets(SPARSE))
        # A name, the turn of a name, another number; the turn of a turn is like a name but a turn.
        self.assertEqual(sorted(all_sets(SPARSE)[1]), [(False, False), (False, True), (True, False)])
        chain = table("r", ("r", ANY, 1), ("r", ("turn", ("turn", ("turn", AT))), 1))
        self.assertEqual(sorted(all_sets(chain)[1]), [(False, False, False), (False, False, True), (False, True, False),
                                                      (True, False, False)])
        self.assertIsInstance(all_sets(SPARSE), tuple)

    def test_one_set(self):
        every = table("r", *[tile[1:] for tile in FULL[1][:6]])
        self.assertEqual(all_sets(every, 1)[1], [(True,)])
        never = table("r", ("r", ("sum", AT, AT), 1))
        self.assertEqual(all_sets(never, 1)[1], [(False,)])
        self.assertIn(all_sets(never, 1)[0][0][0], ("num", "name"))
        for some in (every, never):
            self.check_sets(some, all_sets(some, 1))

    def test_passes(self):
        some = table("abc", ("a", ANY, 1), ("b", ("at", "a"), 1), ("c", ("at", "b"), 1), ("a", ("turn", ("at", "c")), 1),
                     ("b", ("from", 1, 1), 1))
        self.check_sets(some, all_sets(some))
        self.assertEqual(sorted(all_sets(some)[1]), [(False, False, False), (False, True, True), (True, True, True)])

    def test_each_small_tree_has_one(self):
        chance = random.Random(82)
        sizes = []
        for step in range(80):
            some = chance.choice([bare_table, random_table])(chance, chance.randrange(6, 16))
            told = all_sets(some, 1000)
            self.check_sets(some, told)
            found = set()
            leaves = some_leaves(some)[:4]
            for count in range(1, 4):
                found |= {plain_set(some, tree) for tree in trees_of(count, leaves)}
            for draw in range(30):
                found.add(plain_set(some, random_tree(chance, 5)))
            self.assertLessEqual(found, set(told[1]))
            for leaf in leaves_for(some):
                self.assertIn(plain_set(some, leaf), told[1], leaf)
            sizes.append(len(told[1]))
        self.assertGreater(max(sizes), 8)

    def test_limits(self):
        chance = random.Random(83)
        for some in [SPARSE, FULL, PLAIN] + [bare_table(chance, 12) for step in range(20)]:
            count = len(all_sets(some)[1])
            self.assertEqual(len(all_sets(some, count)[1]), count)
            self.assertEqual(len(all_sets(some, limit=count + 1)[1]), count)
            if count > 1:
                self.refused(all_sets, some, count - 1)
                self.refused(all_sets, some, 1)
                for cls in some[0]:
                    self.assertEqual(gap(some, cls, count), gap(some, cls))
                    self.refused(gap, some, cls, count - 1)
                    self.refused(gap, some, cls, 1)

    def test_left_out_it_is_two_hundred(self):
        just, more = wide_table(), wide_table(("r", ("turn", ("from", 1000, 1000)), 1))
        self.check_sets(just, all_sets(just))
        self.check_sets(more, all_sets(more, 201))
        self.assertEqual((len(all_sets(just)[1]), len(all_sets(more, 1000)[1])), (200, 201))
        self.assertEqual((len(gap(just, "r")[2]), len(gap(more, "r", 201)[2])), (200, 201))
        self.refused(all_sets, more)
        self.refused(all_sets, more, 200)
        self.refused(gap, more, "r")
        self.refused(gap, more, "r", 200)
        self.refused(all_sets, just, 199)

    def test_stretches(self):
        # Ends that meet, overlap, lie within one another, and reach up to both ends of all numbers.
        some = table("abc", ("a", ("from", 0, 5), 1), ("b", ("from", 5, 9), 1), ("c", ("from", 10, 10), 1),
                     ("b", ("from", 7, 8), 1), ("a", ("sum", ("from", 3, MOST), ("from", MOST, MOST)), 1),
                     ("c", ("turn", ("from", 0, 0)), 1))
        told = all_sets(some)
        self.check_sets(some, told)
        for leaf in leaves_for(some):
            self.assertIn(plain_set(some, leaf), told[1])

    def test_told_lists_are_the_askers_own(self):
        first, second = all_sets(SPARSE), all_sets(SPARSE)
        kept = list(second[1])
        first[1].clear()
        self.assertEqual(second[1], kept)
        one, other = gap(SPARSE, "r"), gap(SPARSE, "r")
        kept = list(other[2])
        one[2].clear()
        self.assertEqual(other[2], kept)
        one, other = gap(FULL, "r"), gap(FULL, "r")
        one[2].clear()
        self.assertEqual(len(other[2]), len(all_sets(FULL)[1]))


class TestAreSets(Checked):
    def told(self, web, sets, some=SPARSE):
        return are_sets(some, (web, sets))

    def test_any_order_and_any_web(self):
        # Sets by hand: names are in r, turns of these have the part, other numbers have nothing.
        first, second, third = (True, False), (False, True), (False, False)
        for leaf in (name("zz"), num(3), num(5), num(4)):
            self.assertIs(self.told((leaf, ("turn", piece(0)), num(2)), [first, second, third]), True)
            self.assertIs(self.told((num(6), leaf, ("turn", piece(1))), [third, first, second]), True)
            self.assertIs(self.told((leaf, ("by", piece(0), piece(0)), ("turn", piece(0))), [first, third, second]), True)
        self.assertIs(self.told((A, num(MOST), ("turn", piece(0))), [first, third, second]), True)
        self.assertIs(self.told((A, ("less", piece(0), piece(0)), ("turn", piece(0))), [first, third, second]), True)
        # The turn of other trees has nothing.
        self.assertIs(self.told((num(2), ("turn", piece(0)), A), [third, second, first]), False)
        self.assertIs(self.told((num(2), A, ("turn", piece(0))), [third, first, second]), False)

    def test_all_orders(self):
        told = all_sets(FULL)
        for order in itertools.permutations(range(len(told[0]))):
            web, right = [], True
            for number in order:
                tree = told[0][number]
                if any(order.index(part[1]) >= len(web) for part in tree[1:] if tree[0] not in ("num", "name")):
                    right = False
                    break
                web.append(tree if tree[0] in ("num", "name") else
                           (tree[0],) + tuple(piece(order.index(part[1])) for part in tree[1:]))
            if right:
                self.assertIs(self.told(tuple(web), [told[1][number] for number in order], FULL), True)

    def test_left_out_doubled_and_bent(self):
        chance = random.Random(84)
        for some in [SPARSE, FULL, PLAIN] + [bare_table(chance, 9) for step in range(12)]:
            web, sets = all_sets(some)
            self.assertIs(self.told(web[:-1], sets[:-1], some), False)
            self.assertIs(self.told(web, sets[:-1], some), False)
            self.assertIs(self.told(web[:-1], sets, some), False)
            self.assertIs(self.told(web + web[-1:], sets + sets[-1:], some), False)
            self.assertIs(self.told(web + web[-1:], sets, some), False)
            self.assertIs(self.told(web, sets + sets[-1:], some), False)
            self.assertIs(self.told(web + (name("b"),), sets + [plain_set(some, name("b"))], some), False)
            for number, one in enumerate(sets):
                for k in range(len(one)):
                    for other in (not one[k], int(one[k]), None, str(one[k]), (one[k],), [one[k]]):
                        bent = one[:k] + (other,) + one[k + 1:]
                        self.assertIs(self.told(web, sets[:number] + [bent] + sets[number + 1:], some), False, other)
                for bent in (one[:-1], one + (True,), one + (False,), list(one), None, (one,), 0, True, ""):
                    self.assertIs(self.told(web, sets[:number] + [bent] + sets[number + 1:], some), False, bent)

    def test_a_tree_exchanged(self):
        chance = random.Random(85)
        found = {True: 0, False: 0}
        for step in range(60):
            some = bare_table(chance, chance.randrange(5, 12))
            web, sets = all_sets(some)
            number = chance.randrange(len(web))
            trees = leaves_for(some) + [(word, piece(one), piece(other)) for word in ("sum", "less", "by")
                                        for one in range(number) for other in range(number)]
            for tree in chance.sample(trees, min(len(trees), 20)):
                other = web[:number] + (tree,) + web[number + 1:]
                good = plain_set(some, plainly_opened(other, number)) == sets[number]
                self.assertIs(self.told(other, sets, some), good, tree)
                found[good] += 1
        self.assertGreater(min(found.values()), 50)

    def test_trees_of_other_forms(self):
        first, second, third = (True, False), (False, True), (False, False)
        right = (A, ("turn", piece(0)), num(2))
        self.assertIs(self.told(right, [first, second, third]), True)
        for tree in (("turn", A), ("turn", name("b")), ("turn", piece(1)), ("turn", piece(-1)), ("turn", piece(False)),
                     ["turn", piece(0)], ("turn", [piece(0)]), ("turn", ("turn", ("turn", piece(0)))), ("turn",), None):
            self.assertIs(self.told((A, tree, num(2)), [first, second, third]), False, tree)
        for tree in (("turn", ("turn", piece(0))), ("sum", piece(0), A), ("sum", A, A), ("sum", ("turn", A), piece(0))):
            self.assertIs(self.told((A, ("turn", piece(0)), tree), [first, second, third]), False, tree)
        for tree in (("sum", num(2), piece(0)), ("less", piece(0), A), ("by", A, A), piece(0), piece(1)):
            self.assertIs(self.told((A, ("turn", piece(0)), tree), [first, second, third]), False, tree)
        self.assertIs(self.told((A, piece(0), ("turn", piece(0)), num(2)), [first, first, second, third]), False)
        self.assertIs(self.told((num(2), piece(0), A), [third, second, first]), False)
        only = table("r", ("r", ("turn", AT), 1))
        self.assertIs(self.told((A,), [(False,)], only), True)
        self.assertIs(self.told((("turn", A),), [(False,)], only), False)
        self.assertIs(self.told((piece(0),), [(False,)], only), False)

    def test_closed_under_each_sign(self):
        # By each sign alone something else comes of a name.
        for word in ("turn", "sum", "less", "by"):
            parts = (AT,) * (1 if word == "turn" else 2)
            some = table("rm", ("r", ANY, 1), ("r", ("from", 0, MOST), 1), ("m", (word,) + parts, 1))
            self.check_sets(some, all_sets(some))
            self.assertIs(self.told((A,), [(True, False)], some), False)
            for left in range(2, len(all_sets(some)[0])):
                self.assertIs(self.told(all_sets(some)[0][:left], all_sets(some)[1][:left], some), False)
        # Part 0 and part 1 are told apart.
        for word in ("sum", "less", "by"):
            for parts in ((AT, ("at", "m")), (("at", "m"), AT)):
                some = table("rmk", ("r", ANY, 1), ("m", ("from", 0, MOST), 1), ("k", (word,) + parts, 1))
                web, sets = all_sets(some)
                self.check_sets(some, (web, sets))
                self.assertIn((False, False, True), sets)
                one, other = (0, 1) if sets[0][0] == (parts[0] == AT) else (1, 0)
                self.assertEqual(plain_set(some, plainly_opened(web[:2] + ((word, piece(one), piece(other)),), 2)),
                                 (False, False, True))
                rest = [(True, False, False), (False, True, False), (False, False, False)]
                self.assertIs(self.told((A, num(1), ("turn", piece(0))), rest, some), False)

    def test_each_number_has_one(self):
        # Only one number is unlike the others.
        for number in (0, 1, 7, MOST):
            some = table("r", ("r", ("from", number, number), 1))
            self.assertIs(self.told((A, num(number)), [(False,), (True,)], some), True)
            self.assertIs(self.told((num(number), A), [(True,), (False,)], some), True)
            self.assertIs(self.told((A,), [(False,)], some), False)
        for low, high in ((0, 0), (0, 4), (3, 5), (5, MOST), (MOST, MOST), (0, MOST)):
            some = table("r", ("r", ("from", low, high), 1))
            for number in {low - 1, low, high, high + 1} & set(range(0, 10)) | {MOST}:
                good = low <= number <= high
                self.assertIs(self.told((A, num(number)), [(False,), (True,)], some), good)
                self.assertIs(self.told((A, num(number)), [(False,), (False,)], some), False)

    def test_forms(self):
        right = all_sets(SPARSE)
        for thing in (list(right), right + (None,), right[:1], right[::-1], (list(right[0]), right[1]), {},
                      (right[0], tuple(right[1])), (right[0], None), (None, right[1]), ((), []), (right,)):
            self.assertIs(are_sets(SPARSE, thing), False)
        for thing in ODD_THINGS + [deep_thing(60), deep_thing(60, list), [()] * 200000]:
            self.assertIs(are_sets(SPARSE, thing), False)
            self.assertIs(self.told(thing, right[1]), False)
            self.assertIs(self.told(right[0], thing), False)
            self.assertIs(self.told(right[0], right[1][:-1] + [thing]), False)
            self.assertIs(self.told(right[0][:-1] + (thing,), right[1]), False)

    def test_nothing_is_changed(self):
        web, sets = all_sets(SPARSE)
        kept = list(sets)
        self.assertIs(self.told(web, sets), True)
        self.assertEqual(sets, kept)
        sets[0] = sets[1]
        self.assertIs(self.told(web, sets), False)


class TestGap(Checked):
    def check_gap(self, some, cls, told):
        """That what is told of a class is right as far as small trees show it."""
        column = some[0].index(cls)
        self.assertIsInstance(told, tuple)
        self.assertEqual(len(told), 3)
        self.assertIs(is_gap(some, cls, told), True)
        if told[0] == "all":
            self.check_sets(some, told[1:])
            self.assertTrue(all(one[column] for one in told[2]))
            return
        self.assertEqual(told[0], "lacks")
        self.assertTrue(is_web(told[1]))
        self.assertEqual(sorted(one for one, size in told[2]), sorted(all_sets(some)[1]))
        least = opened(told[1])[-1]
        self.assertEqual(least, min(size for one, size in told[2] if not one[column]))
        if least <= 200:
            self.assertEqual(how_many(some, plainly_opened(told[1], len(told[1]) - 1), cls), 0)

    def test_all(self):
        told = gap(FULL, "r")
        self.assertEqual(told[0], "all")
        self.check_gap(FULL, "r", told)
        self.check_gap(FULL, "m", gap(FULL, "m"))
        self.assertEqual(gap(FULL, "m")[0], "lacks")

    def test_a_name_or_a_number_lacks(self):
        for some in (PLAIN, SPARSE, table("r", ("r", ANY, 1)), table("r", ("r", ("from", 1, MOST), 1), *[
                tile[1:] for tile in FULL[1][:1] + FULL[1][2:6]])):
            told = gap(some, "r")
            self.check_gap(some, "r", told)
            self.assertEqual((told[0], opened(told[1])[-1]), ("lacks", 1))
            self.assertEqual(how_many(some, open_last(told[1]), "r"), 0)

    def test_one_number_alone_lacks(self):
        for number in (0, 1, 6, MOST - 1, MOST):
            tiles = [tile[1:] for tile in FULL[1][:1] + FULL[1][2:6]]
            tiles += [("r", ("from", 0, number - 1), 1)] * (number > 0)
            tiles += [("r", ("from", number + 1, MOST), 1)] * (number < MOST)
            told = gap(table("r", *tiles), "r")
            self.check_gap(table("r", *tiles), "r", told)
            self.assertEqual((told[0], told[1][-1]), ("lacks", num(number)))

    def test_a_sign_lacks(self):
        for left_out in ("turn", "sum", "less", "by"):
            some = table("r", *[tile[1:] for tile in FULL[1][:6] if tile[2][0] != left_out])
            told = gap(some, "r")
            self.check_gap(some, "r", told)
            self.assertEqual(open_last(told[1])[0], left_out)
            self.assertEqual(opened(told[1])[-1], 2 if left_out == "turn" else 3)

    def test_a_great_tree_lacks(self):
        # Turns of a name are counted, a bit for each class that is lacking at none: up to five and at last more.
        few = table("r", *[tile[1:] for tile in FULL[1][:3] + FULL[1][4:6]], ("r", ("turn", ANY), 1),
                    ("r", ("turn", ("turn", ANY)), 1), ("r", ("turn", ("turn", ("turn", ANY))), 1),
                    ("r", ("turn", ("from", 0, MOST)), 1), ("r", ("turn", ("turn", ("from", 0, MOST))), 1),
                    *[("r", ("turn", (word, AT, AT)), 1) for word in ("sum", "less", "by")],
                    *[("r", ("turn", ("turn", (word, AT, AT))), 1) for word in ("sum", "less", "by")])
        told = gap(few, "r")
        self.check_gap(few, "r", told)
        self.assertEqual(opened(told[1])[-1], 4)
        self.assertEqual(open_last(told[1])[:1] + open_last(told[1])[1][:1], ("turn", "turn"))

    def test_no_smaller_tree_lacks(self):
        chance = random.Random(86)
        counts = {}
        for step in range(120):
            some = chance.choice([random_table, mostly_full])(chance, chance.randrange(6, 14))
            for cls in some[0]:
                told = gap(some, cls)
                self.check_gap(some, cls, told)
                least = opened(told[1])[-1] if told[0] == "lacks" else 5
                counts[least] = counts.get(least, 0) + 1
                leaves = some_leaves(some)[:3] if least > 3 else some_leaves(some)
                for size in range(1, min(least, 5)):
                    for tree in trees_of(size, leaves):
                        self.assertGreater(how_many(some, tree, cls), 0, tree)
        self.assertGreaterEqual(set(counts), {1, 2, 3, 4, 5})

    def test_sizes_that_double(self):
        some = doubling_table()
        for cls, names in (("d", 1), ("e", 4), ("f", 16), ("g", 64)):
            told = gap(some, cls)
            self.check_gap(some, cls, told)
            self.assertEqual(opened(told[1])[-1], 2 * names - 1)
            self.assertEqual(nameless(open_last(told[1])), nameless(bushy(names)))
        self.assertEqual([gap(some, cls)[0] for cls in "uq"], ["all", "lacks"])


def mostly_full(chance, tiles):
    """Some table of one class that has most signs, and some patterns within another."""
    words = ["turn", "sum", "less", "by"]
    found = [("r", ANY, 1), ("r", ("from", 0, MOST), 1)]
    left_out = chance.choice(words)
    for word in words:
        if word != left_out:
            found.append(("r", (word,) + (AT,) * (1 if word == "turn" else 2), 1))
    holes = (AT,) * (1 if left_out == "turn" else 2)
    for inner in [ANY, ("from", 0, MOST)] + [(word,) + (AT,) * (1 if word == "turn" else 2) for word in words]:
        if chance.randrange(8):
            found.append(("r", (left_out, inner) + holes[1:], 1))
    return table("r", *found)


def nameless(tree):
    """A tree with one name for all names."""
    return A if tree[0] == "name" else (tree[0],) + tuple(nameless(part) for part in tree[1:])


def doubling_table():
    """A table with classes for all trees but names, but sums of two sums of two names, but such sums of such sums ..

    Class u has all trees, q all but sums.
    """
    u, q = ("at", "u"), ("at", "q")
    others = [("turn", u), ("less", u, u), ("by", u, u), ("from", 0, MOST)]
    tiles = [("u", ("sum", u, u), 1), ("u", q, 1), ("q", ANY, 1)] + [("q", pattern, 1) for pattern in others]
    tiles += [("d", pattern, 1) for pattern in others + [("sum", u, u)]]
    for cls, below in ("ed", "fe", "gf"):
        inner = [("sum", ("at", below), u), ("sum", u, ("at", below)), q]
        tiles += [(cls, ("sum", one, u), 1) for one in inner] + [(cls, ("sum", u, one), 1) for one in inner]
        tiles.append((cls, q, 1))
    return table("uqdefg", *tiles)


class TestIsGap(Checked):
    def told(self, *thing, some=FULL, cls="m"):
        return is_gap(some, cls, thing)

    def setUp(self):
        # Lacking m: all but turns of turns. Columns: r, m, the turn within.
        self.sizes = [((True, False, False), 1), ((True, False, True), 2), ((True, True, True), 3)]
        self.assertEqual(sorted(one for one, size in self.sizes), sorted(all_sets(FULL)[1]))

    def test_any_smallest_web(self):
        for tree in (A, name("zz"), num(0), num(MOST)):
            for web in ((tree,), (tree, tree), (bushy(100), tree), (tree, piece(0)), (tree, bushy(9), piece(0)),
                        (A, ("sum", piece(0), piece(0)), tree)):
                self.assertIs(self.told("lacks", web, self.sizes), True)
                self.assertIs(self.told("lacks", web, self.sizes[::-1]), True)
        # None of these is the smallest, though it lacks a cover.
        for web in ((("turn", A),), (A, ("turn", piece(0))), (A, ("sum", A, piece(0))), (("by", A, A), piece(0))):
            self.assertEqual(how_many(FULL, open_last(web), "m"), 0)
            self.assertIs(self.told("lacks", web, self.sizes), False)
        # It has a cover, across pieces too.
        for web in ((("turn", ("turn", A)),), (("turn", A), ("turn", piece(0))), (A, ("turn", ("turn", piece(0))))):
            self.assertEqual(how_many(FULL, open_last(web), "m"), 1)
            self.assertIs(self.told("lacks", web, self.sizes), False)

    def test_patterns_lie_across_pieces(self):
        # Whoever looks at each tree of the web alone takes the last one for one without a cover.
        some = table("r", *[tile[1:] for tile in FULL[1][:3] + FULL[1][4:6]],
                     *[("r", ("turn", inner), 1) for inner in (("turn", AT), ANY, ("from", 0, MOST))],
                     *[("r", ("turn", (word, AT, AT)), 1) for word in ("sum", "less")])
        told = gap(some, "r")
        self.assertEqual((told[0], open_last(told[1])[0], open_last(told[1])[1][0]), ("lacks", "turn", "by"))
        sizes = told[2]
        for web, good in (((("turn", ("by", A, A)),), True), ((("by", A, A), ("turn", piece(0))), True),
                          ((A, ("by", A, piece(0)), piece(1), ("turn", piece(2))), True),
                          ((("sum", A, A), ("turn", piece(0))), False), ((("turn", A), ("turn", piece(0))), False),
                          ((A, ("turn", piece(0))), False), ((("turn", ("by", A, ("turn", A))),), False),
                          ((("by", A, A), ("turn", piece(0)), ("turn", piece(1))), False)):
            self.assertIs(is_gap(some, "r", ("lacks", web, sizes)), good, web)

    def test_sizes_up_and_down(self):
        web = (A,)
        for numbers in ((1, 1, 1), (1, 2, 2), (1, 1, 2), (1, 2, 3)):
            sizes = [(one, number) for (one, had), number in zip(self.sizes, numbers)]
            self.assertIs(self.told("lacks", web, sizes), True, numbers)
        for numbers in ((2, 2, 3), (0, 1, 1), (1, 0, 1), (1, 1, 0), (1, 3, 3), (1, 2, 4), (1, 1, 3), (2, 3, 4), (-1, 1, 1),
                        (1, 1, -1), (True, 1, 1), (1, True, 1), (1, 1, True), (1, 2, 10 ** 59), (1, -(10 ** 59), 1),
                        (None, 1, 1), (1, None, 1), (1, 1, "1"), (1, 1, (1,)), (1, [1], 1)):
            sizes = [(one, number) for (one, had), number in zip(self.sizes, numbers)]
            self.assertIs(self.told("lacks", web, sizes), False, numbers)

    def test_sizes_of_a_greater_tree(self):
        some = table("r", *[tile[1:] for tile in FULL[1][:5]])
        told = gap(some, "r")
        self.assertEqual(sorted(told[2]), [((False,), 3), ((True,), 1)])
        for numbers, good in (((3, 1), True), ((2, 1), False), ((4, 1), False), ((1, 1), False), ((3, 2), False)):
            sizes = [((False,), numbers[0]), ((True,), numbers[1])]
            for web in ((("by", A, A),), (A, ("by", piece(0), num(1)))):
                self.assertIs(is_gap(some, "r", ("lacks", web, sizes)), good, numbers)
            for web in ((A,), (("sum", A, A),), (("turn", ("by", A, A)),), (("by", A, A), A)):
                self.assertIs(is_gap(some, "r", ("lacks", web, sizes)), False, numbers)

    def test_each_sign_is_looked_at(self):
        # One sign alone comes to the other set; its number must be no more than that sign lets it be.
        for word in ("turn", "sum", "less", "by"):
            some = table("r", *[tile[1:] for tile in FULL[1][:6] if tile[2][0] != word])
            least = 2 if word == "turn" else 3
            tree = (word,) + (A,) * (least - 1)
            for number in range(1, 6):
                thing = ("lacks", (tree,), [((True,), 1), ((False,), number)])
                self.assertIs(is_gap(some, "r", thing), number == least, (word, number))

    def test_sets_left_out_doubled_and_more(self):
        web = (A,)
        for k, (one, number) in enumerate(self.sizes):
            rest = self.sizes[:k] + self.sizes[k + 1:]
            self.assertIs(self.told("lacks", web, rest), False)
            self.assertIs(self.told("lacks", web, self.sizes + [(one, number)]), False)
            self.assertIs(self.told("lacks", web, rest + [self.sizes[k - 1]]), False)
            for bent in (list(one), one[:2], one + (True,), tuple(int(truth) for truth in one), None, (), (one, one)):
                self.assertIs(self.told("lacks", web, rest + [(bent, number)]), False, bent)
            for entry in ([one, number], (one,), (one, number, number), (number, one), one, number, None):
                self.assertIs(self.told("lacks", web, rest + [entry]), False, entry)
        # No tree has the set of these.
        for one in ((False, False, False), (False, True, True), (True, True, False)):
            for number in (1, 2, 3):
                self.assertIs(self.told("lacks", web, self.sizes + [(one, number)]), False)
                self.assertIs(self.told("lacks", web, self.sizes[:2] + [(one, number)]), False)

    def test_all(self):
        web, sets = all_sets(FULL)
        self.assertIs(self.told("all", web, sets, cls="r"), True)
        self.assertIs(self.told("all", web, sets, cls="m"), False)
        self.assertIs(self.told("lacks", web, sets, cls="r"), False)
        self.assertIs(self.told("lacks", (A,), self.sizes, cls="r"), False)
        self.assertIs(self.told("all", (A,), self.sizes, cls="r"), False)
        self.assertIs(self.told("all", web[:-1], sets[:-1], cls="r"), False)
        self.assertIs(self.told("all", web + (A,), sets + sets[:1], cls="r"), False)
        self.assertIs(self.told("all", (name("b"), ("turn", piece(0)), ("turn", piece(1))),
                                [one for one, size in self.sizes], cls="r"), True)
        self.assertIs(self.told("all", (A, ("turn", piece(0)), ("turn", piece(1))),
                                [one for one, size in self.sizes[::-1]], cls="r"), False)
        for number, one in enumerate(sets):
            for k in range(len(one)):
                bent = one[:k] + (not one[k],) + one[k + 1:]
                self.assertIs(self.told("all", web, sets[:number] + [bent] + sets[number + 1:], cls="r"), False)
        self.assertIs(self.told("all", *all_sets(SPARSE), some=SPARSE, cls="r"), False)

    def test_words(self):
        for word in ("", "All", "lack", "none", None, 0, True, ("all",), ["lacks"]):
            self.assertIs(self.told(word, (A,), self.sizes), False, word)
            self.assertIs(self.told(word, *all_sets(FULL), cls="r"), False, word)

    def test_forms(self):
        for right, cls in ((("lacks", (A,), self.sizes), "m"), (("all",) + all_sets(FULL), "r")):
            self.assertIs(is_gap(FULL, cls, right), True)
            for thing in (list(right), right[:2], right + (None,), right[::-1], (right,), (right[0], right[2], right[1]),
                          (right[0], list(right[1]), right[2]), (right[0], right[1], tuple(right[2])), {}):
                self.assertIs(is_gap(FULL, cls, thing), False)
            for thing in ODD_THINGS + [deep_thing(60), deep_thing(60, list), [()] * 200000]:
                self.assertIs(is_gap(FULL, cls, thing), False)
                self.assertIs(is_gap(FULL, cls, (thing,) + right[1:]), False)
                self.assertIs(is_gap(FULL, cls, (right[0], thing, right[2])), False)
                self.assertIs(is_gap(FULL, cls, right[:2] + (thing,)), False)
                self.assertIs(is_gap(FULL, cls, right[:2] + (right[2][:-1] + [thing],)), False)
                self.assertIs(is_gap(FULL, cls, (right[0], right[1] + (thing,), right[2])), False)
                self.assertIs(is_gap(FULL, cls, (right[0], (thing,) + right[1], right[2])), False)
        for web in ((), [A], (A,) * 3001, A, (turned(A, 40),), (A, piece(1)), (A, piece(True)), (piece(0),)):
            self.assertIs(self.told("lacks", web, self.sizes), False)
        self.assertIs(self.told("lacks", (A,) * 3000, self.sizes), True)

    def test_bent_at_random(self):
        chance = random.Random(87)
        found = {True: 0, False: 0}
        for step in range(200):
            some = chance.choice([random_table, mostly_full, bare_table])(chance, chance.randrange(6, 14))
            cls = chance.choice(some[0])
            kind, web, sizes = gap(some, cls)
            if kind == "all":
                continue
            column, least = some[0].index(cls), opened(web)[-1]
            numbers = {one: max(1, size - chance.choice([0, 0, 0, 1])) for one, size in sizes}
            good = all(number >= least for one, number in numbers.items() if not one[column])
            leaves = {plain_set(some, leaf) for leaf in leaves_for(some)}
            trees, sets = all_sets(some)
            plain = {one: plainly_opened(trees, k) for k, one in enumerate(sets)}
            if max(pieces(tree) for tree in plain.values()) > 20 or len(sets) > 9:
                continue
            good = good and all(numbers[one] == 1 for one in leaves)
            for one in numbers:
                good = good and numbers[plain_set(some, ("turn", plain[one]))] <= 1 + numbers[one]
                for other in numbers:
                    for word in ("sum", "less", "by"):
                        come = plain_set(some, (word, plain[one], plain[other]))
                        good = good and numbers[come] <= 1 + numbers[one] + numbers[other]
            self.assertIs(is_gap(some, cls, (kind, web, list(numbers.items()))), good)
            found[good] += 1
        self.assertGreater(min(found.values()), 15)


if __name__ == "__main__":
    unittest.main()
