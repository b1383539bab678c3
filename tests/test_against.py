import random
import unittest

from rowsmith.against import against
from rowsmith.counts import how_many
from rowsmith.errors import TooMany
from rowsmith.labels import labels
from rowsmith.states import all_states
from rowsmith.webs import is_web, open_last, opened
from samples import (MOST, PLAIN, bare_table, check_refused, leaves_for, name, num, plain_state, random_table, random_tree, table,
                     trees_of, turned, with_prices)
from twotables import bears_out, bent, draw_two, is_plain_ring, last_prices, plain_pairs, unrolled

A = name("a")
ANY = ("any",)
R, M = ("at", "r"), ("at", "m")
SIGNS = [("r", ("turn", R), 1)] + [("r", (word, R, R), 2) for word in ("sum", "less", "by")]
# Each tree has a cover, and all of them one state.
EVERY = table("r", ("r", ANY, 3), ("r", ("from", 0, MOST), 4), *SIGNS)
NEVER = table("r", ("r", ("sum", R, R), 1))
# By each turn r costs one more than m.
ENDLESS = table("rm", ("r", ANY, 0), ("m", ANY, 0), ("r", ("turn", R), 1), ("m", ("turn", M), 0))


def bound_table(most, *more):
    """The same with a pass that bounds the difference: most + 2 states."""
    return table("rm", *[tile[1:] for tile in ENDLESS[1]], ("r", M, most), *more)


def pair_of(one, other, tree):
    return plain_state(one, tree)[0], plain_state(other, tree)[0]


class TestAgainst(unittest.TestCase):
    def refused(self, *asked, **named):
        check_refused(self, TooMany, against, *asked, **named)

    def check(self, one, cls, other, kind, told, limit=None):
        """That what is told is right by the words of the document."""
        self.assertIsInstance(told, tuple)
        if told[0] == "none":
            self.assertEqual(told, ("none",))
        elif told[0] == "lacks":
            self.assertEqual(len(told), 2)
            self.assertTrue(is_web(told[1]))
            last = last_prices(one, cls, other, kind, told[1])
            self.assertIsNone(last[0])
            self.assertIsNotNone(last[1])
            if opened(told[1])[-1] <= 100:
                tree = open_last(told[1])
                self.assertEqual(how_many(one, tree, cls), 0)
                self.assertGreater(how_many(other, tree, kind), 0)
        elif told[0] == "within":
            self.check_within(one, cls, other, kind, *told[1:])
        else:
            self.assertEqual((told[0], len(told)), ("grows", 4))
            self.check_ring(one, cls, other, kind, *told[1:])
        return told

    def check_within(self, one, cls, other, kind, most, web, pairs):
        self.assertIsInstance(most, int)
        self.assertTrue(is_web(web))
        mine, yours = last_prices(one, cls, other, kind, web)
        self.assertEqual(mine - yours, most)
        self.assertIsInstance(pairs, list)
        for entry in pairs:
            self.assertIsInstance(entry, tuple)
            self.assertEqual([type(part) for part in entry[:2]], [tuple, tuple])
            self.assertIn(type(entry[2]), (int, type(None)))
        self.assertEqual(len({entry[:2] for entry in pairs}), len(pairs))
        self.assertIn(bears_out(one, cls, other, kind, most, pairs), (True, None))

    def check_ring(self, one, cls, other, kind, web, low, high):
        self.assertTrue(is_web(web))
        self.assertEqual([type(low), type(high)], [int, int])
        self.assertTrue(is_plain_ring(one, cls, other, kind, web, low, high))
        found = []
        for times in range(4):
            mine, yours = last_prices(one, cls, other, kind, unrolled(web, low, high, times))
            found.append(mine - yours)
        steps = [above - below for below, above in zip(found, found[1:])]
        self.assertGreater(steps[0], 0)
        self.assertEqual(steps, steps[:1] * 3)

    def check_drawn(self, one, cls, other, kind, told, trees):
        """That no drawn tree speaks against what is told."""
        for tree in trees:
            mine = labels(one, tree)[0][1][one[0].index(cls)]
            yours = labels(other, tree)[0][1][other[0].index(kind)]
            if told[0] == "none":
                self.assertIsNone(yours)
            elif told[0] != "lacks" and yours is not None:
                self.assertIsNotNone(mine)
                if told[0] == "within":
                    self.assertLessEqual(mine - yours, told[1])
                    self.assertIn(pair_of(one, other, tree), [entry[:2] for entry in told[3]])

    def test_a_table_beside_itself(self):
        for some in (PLAIN, EVERY, bound_table(3)):
            for cls in some[0]:
                told = self.check(some, cls, some, cls, against(some, cls, some, cls))
                self.assertEqual(told[:2], ("within", 0))
                around = (some[0], some[1][::-1])
                self.assertEqual(self.check(some, cls, around, cls, against(some, cls, around, cls))[:2], ("within", 0))
                self.assertEqual(self.check(around, cls, some, cls, against(around, cls, some, cls))[:2], ("within", 0))
        self.assertEqual(against(EVERY, "r", EVERY, "r")[3], [((0,), (0,), 0)])

    def test_a_dearer_tile(self):
        # Only numbers are dearer, and they may stand as often as one likes.
        dear = with_prices(EVERY, tab=9)
        self.assertEqual(self.check(dear, "r", EVERY, "r", against(dear, "r", EVERY, "r"))[0], "grows")
        # The other way round a name alone is just as dear, a number 5 cheaper.
        self.assertEqual(self.check(EVERY, "r", dear, "r", against(EVERY, "r", dear, "r"))[:2], ("within", 0))
        # Names and numbers alone, no signs: each once.
        once = table("r", ("r", ANY, 3), ("r", ("from", 0, 9), 4))
        for cost, most in ((4, 0), (9, 5), (0, 0)):
            other = with_prices(once, tab=cost)
            self.assertEqual(self.check(other, "r", once, "r", against(other, "r", once, "r"))[:2], ("within", most))
        number = with_prices(once, taa=7, tab=9)
        told = self.check(number, "r", once, "r", against(number, "r", once, "r"))
        self.assertEqual((told[1], told[2][-1][0]), (5, "num"))

    def test_fewer_tiles(self):
        fewer = (EVERY[0], EVERY[1][:-1])
        told = self.check(fewer, "r", EVERY, "r", against(fewer, "r", EVERY, "r"))
        self.assertEqual((told[0], open_last(told[1])[0]), ("lacks", "by"))
        self.assertEqual(self.check(EVERY, "r", fewer, "r", against(EVERY, "r", fewer, "r"))[:2], ("within", 0))
        # A tile that only makes it cheaper.
        more = table("r", *[tile[1:] for tile in EVERY[1]], ("r", ("by", ("turn", R), R), 0))
        self.assertEqual(self.check(EVERY, "r", more, "r", against(EVERY, "r", more, "r"))[0], "grows")
        self.assertEqual(self.check(more, "r", EVERY, "r", against(more, "r", EVERY, "r"))[:2], ("within", 0))

    def test_none(self):
        for some in (EVERY, NEVER, PLAIN):
            self.assertEqual(against(some, "r", NEVER, "r"), ("none",))
        # None goes ahead of lacks: the one has no cover either.
        one_class = table("rm", ("r", ANY, 1), ("r", ("turn", M), 1))
        self.assertEqual(against(one_class, "m", one_class, "m"), ("none",))
        self.assertEqual(against(one_class, "r", one_class, "m"), ("none",))
        self.assertEqual(self.check(one_class, "m", one_class, "r", against(one_class, "m", one_class, "r"))[0], "lacks")
        # A cover that needs a part that nothing has.
        some = table("rm", ("r", ANY, 1), ("m", ("turn", ("sum", R, M)), 1))
        self.assertEqual(against(some, "r", some, "m"), ("none",))

    def test_lacks_ahead_of_within_and_grows(self):
        # All that both have is alike, but one number is lacking.
        for left_out in (0, 1, 6, MOST):
            tiles = [("r", ANY, 3)] + SIGNS
            tiles += [("r", ("from", 0, left_out - 1), 4)] * (left_out > 0)
            tiles += [("r", ("from", left_out + 1, MOST), 4)] * (left_out < MOST)
            one = table("r", *tiles)
            told = self.check(one, "r", EVERY, "r", against(one, "r", EVERY, "r"))
            self.assertEqual(told[0], "lacks")
            dear = with_prices(one, taa=10)
            self.assertEqual(self.check(dear, "r", EVERY, "r", against(dear, "r", EVERY, "r"))[0], "lacks")
            self.assertIn(self.check(EVERY, "r", one, "r", against(EVERY, "r", one, "r"))[:2], [("within", 0)])

    def test_most_below_nothing_and_above(self):
        for cheap, dear, most in ((1, 5, 4), (5, 1, -4), (3, 3, 0), (0, 1000, 1000), (1000, 0, -1000)):
            one, other = table("r", ("r", ANY, dear)), table("q", ("q", ANY, cheap))
            told = self.check(one, "r", other, "q", against(one, "r", other, "q"))
            self.assertEqual(told[:2], ("within", most))
        # The greatest is told, though the least is far below it.
        one = table("r", ("r", ANY, 1), ("r", ("from", 0, 9), 2))
        other = table("q", ("q", ANY, 9), ("q", ("from", 0, 9), 4))
        told = self.check(one, "r", other, "q", against(one, "r", other, "q"))
        self.assertEqual((told[1], told[2][-1][0]), (-2, "num"))

    def test_several_leaves_have_one_pair(self):
        # A name and each number have one pair of states, but not one difference.
        for name_cost in (2, 8):
            one = table("r", ("r", ANY, name_cost), ("r", ("from", 0, 4), 5), ("r", ("from", 5, MOST), 6))
            other = table("r", ("r", ANY, 3), ("r", ("from", 0, 7), 1), ("r", ("from", 8, MOST), 9))
            told = self.check(one, "r", other, "r", against(one, "r", other, "r"))
            self.assertEqual(told[1], 5)
            self.assertIn(told[2][-1], [num(number) for number in (5, 6, 7)] if name_cost == 2 else
                          [A, num(5), num(6), num(7)])

    def test_ends_of_stretches(self):
        one = table("r", ("r", ("from", 3, 5), 1), ("r", ("from", 6, 9), 9))
        other = table("r", ("r", ("from", 4, 6), 1))
        told = self.check(one, "r", other, "r", against(one, "r", other, "r"))
        self.assertEqual((told[1], told[2][-1]), (8, num(6)))
        told = self.check(other, "r", one, "r", against(other, "r", one, "r"))
        self.assertEqual(told[0], "lacks")
        self.assertIn(told[1][-1], [num(number) for number in (3, 7, 8, 9)])
        for low, high in ((0, 0), (0, 4), (3, 5), (MOST, MOST), (0, MOST), (5, MOST - 1)):
            one = table("r", ("r", ("from", 0, MOST), 4))
            other = table("r", ("r", ("from", low, high), 1))
            told = self.check(one, "r", other, "r", against(one, "r", other, "r"))
            self.assertEqual((told[1], low <= told[2][-1][1] <= high), (3, True))
            told = self.check(other, "r", one, "r", against(other, "r", one, "r"))
            self.assertEqual(told[0], "within" if (low, high) == (0, MOST) else "lacks")
            self.check_drawn(one, "r", other, "r", against(one, "r", other, "r"), leaves_for(one, other))

    def test_growing_by_each_sign(self):
        for word in ("turn", "sum", "less", "by"):
            parts = (R,) * (1 if word == "turn" else 2)
            one = table("r", ("r", ANY, 1), ("r", (word,) + parts, 3))
            other = table("r", ("r", ANY, 1), ("r", (word,) + parts, 2))
            self.assertEqual(self.check(one, "r", other, "r", against(one, "r", other, "r"))[0], "grows")
            self.assertEqual(self.check(other, "r", one, "r", against(other, "r", one, "r"))[:2], ("within", 0))
        # By one part of a sign alone, part 0 or part 1.
        for parts in ((R, M), (M, R)):
            one = table("rm", ("r", ANY, 1), ("m", ("from", 0, MOST), 1), ("r", ("sum",) + parts, 3))
            other = with_prices(one, tac=2)
            self.assertEqual(self.check(one, "r", other, "r", against(one, "r", other, "r"))[0], "grows")
            self.assertEqual(self.check(one, "m", other, "m", against(one, "m", other, "m"))[:2], ("within", 0))

    def test_rings_of_several_steps(self):
        # It takes three turns, of products of names, to lose something.
        inner = ("turn", ("turn", ("turn", R)))
        one = table("r", ("r", ANY, 1), ("r", inner, 8), ("r", ("by", ("turn", R), R), 1))
        other = with_prices(one, tab=7)
        told = self.check(one, "r", other, "r", against(one, "r", other, "r"))
        self.assertEqual(told[0], "grows")
        self.assertGreaterEqual(told[3] - told[2], 3)
        # What is lost by the one sign is won back by the other, which has to stand beside it.
        for win, grows in ((0, True), (1, True), (2, False), (3, False)):
            one = table("rm", ("r", ANY, 1), ("m", ("turn", R), 5), ("r", ("sum", M, M), 1))
            other = with_prices(one, tab=4, tac=1 + win)
            told = self.check(one, "r", other, "r", against(one, "r", other, "r"))
            self.assertEqual(told[0], "grows" if grows else "within", win)

    def test_what_leads_to_no_end_may_grow(self):
        # Turns grow in m alone, and no cover for r has one for m within.
        one = table("rm", ("r", ANY, 2), ("m", ANY, 1), ("m", ("turn", M), 3))
        other = with_prices(one, tac=1)
        told = self.check(one, "r", other, "r", against(one, "r", other, "r"))
        self.assertEqual(told[:2], ("within", 0))
        self.assertEqual(self.check(one, "m", other, "m", against(one, "m", other, "m"))[0], "grows")
        self.assertIn(None, [number for mine, yours, number in told[3]])
        # A pass makes an end of them.
        one = table("rm", *[tile[1:] for tile in one[1]], ("r", M, 7))
        other = with_prices(one, tac=1)
        self.assertEqual(self.check(one, "r", other, "r", against(one, "r", other, "r"))[0], "grows")

    def test_classes_that_passes_join(self):
        one = table("rmk", ("r", ANY, 1), ("m", R, 2), ("k", M, 3), ("r", ("turn", ("at", "k")), 0), ("r", ("at", "k"), 9))
        for cls, cost in (("r", 1), ("m", 3), ("k", 6)):
            for kind, less in (("r", 1), ("m", 3), ("k", 6)):
                told = self.check(one, cls, one, kind, against(one, cls, one, kind))
                self.assertEqual(told[:2], ("within", cost - less))
        loop = with_prices(one, tae=0)
        self.assertEqual(self.check(loop, "k", one, "k", against(loop, "k", one, "k"))[:2], ("within", 0))
        dear = with_prices(one, tab=4)
        self.assertEqual(self.check(dear, "k", one, "k", against(dear, "k", one, "k"))[0], "grows")

    def test_the_difference_within_a_table(self):
        for most in (0, 1, 7, 50):
            some = bound_table(most)
            told = self.check(some, "r", some, "m", against(some, "r", some, "m"))
            self.assertEqual(told[:2], ("within", most))
            self.assertEqual(opened(told[2])[-1], most + 1)
            self.assertEqual(self.check(some, "m", some, "r", against(some, "m", some, "r"))[:2], ("within", 0))

    def test_drawn_tables(self):
        chance = random.Random(111)
        found = {}
        for step in range(180):
            one, cls, other, kind = draw_two(chance)
            try:
                told = against(one, cls, other, kind)
            except TooMany:
                continue
            self.check(one, cls, other, kind, told)
            trees = leaves_for(one, other) + [random_tree(chance, 5) for draw in range(12)]
            self.check_drawn(one, cls, other, kind, told, trees)
            found[told[0]] = found.get(told[0], 0) + 1
        self.assertEqual(sorted(found), ["grows", "lacks", "none", "within"])
        self.assertGreater(min(found.values()), 3, found)
        self.assertGreater(found["within"], 40, found)
        self.assertGreater(found["grows"], 20, found)

    def test_the_pairs_are_all(self):
        chance = random.Random(112)
        checked = 0
        for step in range(60):
            one = bare_table(chance, chance.randrange(3, 7))
            other = bent(chance, one)
            cls = chance.choice(one[0])
            try:
                told = against(one, cls, other, cls, 14)
            except TooMany:
                continue
            trees = plain_pairs(one, other, 14)
            if told[0] == "within" and trees is not None:
                self.assertEqual({entry[:2] for entry in told[3]}, set(trees))
                self.assertIs(bears_out(one, cls, other, cls, told[1], told[3]), True)
                checked += 1
        self.assertGreater(checked, 15)

    def test_small_trees_reach_no_more(self):
        chance = random.Random(113)
        reached = 0
        for step in range(40):
            one = random_table(chance, 7)
            other = bent(chance, one)
            cls = chance.choice(one[0])
            told = against(one, cls, other, cls, 1000)
            leaves = [A, num(0), num(7)]
            self.check_drawn(one, cls, other, cls, told, [tree for count in range(1, 5) for tree in trees_of(count, leaves)])
            reached += told[0] == "within"
        self.assertGreater(reached, 5)

    def test_limits_for_the_one_and_for_the_other(self):
        many = bound_table(20)
        self.assertEqual((len(all_states(many)[1]), len(all_states(EVERY)[1])), (22, 1))
        for one, cls, other, kind in ((many, "m", EVERY, "r"), (EVERY, "r", many, "m")):
            told = self.check(one, cls, other, kind, against(one, cls, other, kind, 22))
            self.assertEqual(against(one, cls, other, kind, limit=23), told)
            self.assertEqual(against(one, cls, other, kind)[0], told[0])
            for limit in (21, 10, 2, 1):
                self.refused(one, cls, other, kind, limit)
                self.refused(one, cls, other, kind, limit=limit)

    def test_limits_for_the_pairs(self):
        # The one knows turns of names, the other products: each has three states, but there are more pairs.
        one = table("rm", ("r", ANY, 1), ("m", ("turn", R), 1), ("r", M, 1))
        other = table("rm", ("r", ("from", 0, 4), 1), ("m", ("by", R, R), 1), ("r", M, 1))
        count = len(plain_pairs(one, other, 14))
        self.assertEqual([len(all_states(some)[1]) for some in (one, other)], [3, 3])
        self.assertGreater(count, 3)
        self.assertEqual(self.check(one, "r", other, "r", against(one, "r", other, "r", count))[0], "lacks")
        self.refused(one, "r", other, "r", count - 1)
        self.refused(one, "r", other, "r", 3)
        chance = random.Random(114)
        for step in range(30):
            one, other = bare_table(chance, 4), bare_table(chance, 4)
            trees = plain_pairs(one, other, 14)
            if trees is not None and len(trees) > 1:
                self.check(one, one[0][0], other, other[0][0], against(one, one[0][0], other, other[0][0], len(trees)))
                self.refused(one, one[0][0], other, other[0][0], len(trees) - 1)

    def test_too_many_goes_ahead(self):
        for limit in (1, 2, 200, 1000):
            self.refused(ENDLESS, "r", NEVER, "r", limit)
            self.refused(NEVER, "r", ENDLESS, "r", limit)
            self.refused(ENDLESS, "r", ENDLESS, "m", limit)
            self.refused(EVERY, "r", ENDLESS, "m", limit)
        self.refused(ENDLESS, "r", NEVER, "r")
        self.refused(NEVER, "r", ENDLESS, "r")

    def test_left_out_it_is_two_hundred(self):
        just, more = bound_table(198), bound_table(199)
        self.assertEqual(against(just, "r", just, "m")[:2], ("within", 198))
        self.refused(more, "r", more, "m")
        self.refused(more, "r", more, "m", 200)
        self.assertEqual(against(more, "r", more, "m", 201)[:2], ("within", 199))
        self.refused(just, "r", just, "m", 199)
        far = bound_table(998)
        self.assertEqual(against(far, "r", far, "m", 1000)[:2], ("within", 998))
        self.refused(far, "r", far, "m", 999)

    def test_a_long_way_round(self):
        # The ring needs what takes very many turns to come to.
        one = bound_table(150, ("m", ("by", R, M), 1))
        other = with_prices(one, taf=0)
        told = against(one, "m", other, "m")
        self.check(one, "m", other, "m", told)
        self.assertEqual(told[0], "grows")
        # Chains of turns that double.
        one = table("r", ("r", ANY, 1), ("r", turned(R, 4), 7), ("r", ("sum", R, R), 2), ("r", ("sum", ("turn", R), R), 2),
                    ("r", ("sum", turned(R, 2), R), 9))
        other = with_prices(one, tae=8)
        self.assertEqual(self.check(one, "r", other, "r", against(one, "r", other, "r"))[0], "grows")

    def test_told_lists_are_the_askers_own(self):
        first, second = against(PLAIN, "r", PLAIN, "r"), against(PLAIN, "r", PLAIN, "r")
        kept = list(second[3])
        first[3].clear()
        self.assertEqual(second[3], kept)


if __name__ == "__main__":
    unittest.main()
