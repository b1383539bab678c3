import random
import unittest

from rowsmith.columns import columns
from rowsmith.errors import TooMany
from rowsmith.labels import labels
from rowsmith.states import all_states, are_states, prices, walked
from rowsmith.webs import is_web, opened
from samples import (MOST, ODD_THINGS, PLAIN, bare_table, bushy, check_refused, comb, deep_thing, leaves_for, name,
                     num, piece, plain_prices, plain_state, plainly_opened, random_table, random_tree, random_web, table,
                     trees_of, turned)

A = name("a")
ANY = ("any",)
R, M = ("at", "r"), ("at", "m")
# By each turn r costs one more than m, so there is a state for each number of turns: endlessly many.
ENDLESS = table("rm", ("r", ANY, 0), ("m", ANY, 0), ("r", ("turn", R), 1), ("m", ("turn", M), 0))


def bound_table(most, *more):
    """The same table with a pass that bounds the difference: most + 2 states, where no more tiles are told."""
    return table("rm", *[tile[1:] for tile in ENDLESS[1]], ("r", M, most), *more)


def turned_web(web, order):
    """The trees of a web in another order, or None where a piece would stand ahead of its tree."""
    found = []
    for number in order:
        tree = web[number]
        if tree[0] not in ("num", "name"):
            places = [order.index(part[1]) for part in tree[1:]]
            if max(places) >= len(found):
                return None
            tree = (tree[0],) + tuple(piece(place) for place in places)
        found.append(tree)
    return tuple(found)


class Checked(unittest.TestCase):
    def refused(self, ask, *asked, **named):
        check_refused(self, TooMany, ask, *asked, **named)


class TestPrices(unittest.TestCase):
    def test_by_hand(self):
        # Columns: r, m, a product of r and m, a number from 5 to 7.
        self.assertEqual(columns(PLAIN)[2:], [("by", R, M), ("from", 5, 7)])
        web = (A, num(5), num(9), num(10), ("by", A, A), ("sum", piece(4), piece(1)), ("turn", num(10)))
        self.assertEqual(prices(PLAIN, web), [
            (2, 12, None, None), (1, 11, None, 0), (1, 11, None, None), (None, None, None, None),
            (10, 9, 14, None), (14, 24, None, None), (None, None, None, None)])

    def test_parts_whose_holes_lie_across_pieces(self):
        some = table("r", ("r", ANY, 1), ("r", ("turn", ("sum", ("turn", R), R)), 5))
        self.assertEqual(columns(some), ["r", ("sum", ("turn", R), R), ("turn", R)])
        for web in ((("turn", ("sum", ("turn", A), A)),),
                    (A, ("turn", piece(0)), ("sum", piece(1), piece(0)), ("turn", piece(2))),
                    (A, ("sum", ("turn", piece(0)), A), ("turn", piece(1))),
                    (("turn", A), A, ("turn", ("sum", piece(0), piece(1)))),
                    (A, ("turn", A), ("sum", piece(1), A), piece(2), ("turn", piece(3)))):
            self.assertEqual(prices(some, web)[-1], (7, None, None))
        web = (A, ("turn", piece(0)), ("sum", piece(1), piece(0)), ("turn", piece(2)), ("turn", piece(3)))
        self.assertEqual(prices(some, web), [(1, None, None), (None, None, 1), (None, 2, None), (7, None, None),
                                             (None, None, 7)])

    def test_a_part_that_does_not_lie_and_a_hole_without_a_cover(self):
        some = table("rm", ("r", ANY, 1), ("m", ("from", 0, 0), 2), ("r", ("turn", ("sum", R, M)), 1))
        self.assertEqual(columns(some), ["r", "m", ("sum", R, M)])
        self.assertEqual(prices(some, (("sum", A, num(0)), ("less", A, num(0)), ("sum", num(0), num(0)),
                                       ("sum", A, A), ("sum", A, num(1)))),
                         [(None, None, 3), (None, None, None), (None, None, None), (None, None, None),
                          (None, None, None)])

    def test_leaves_within_patterns_cost_nothing(self):
        some = table("r", ("r", ("sum", ANY, ("from", 2, 3)), 4), ("r", ("turn", ("turn", ANY)), 9))
        self.assertEqual(columns(some), ["r", ANY, ("from", 2, 3), ("turn", ANY)])
        self.assertEqual(prices(some, (A, num(2), num(1), num(4), ("turn", A), ("sum", A, num(3)), ("turn", num(2)))),
                         [(None, 0, None, None), (None, None, 0, None), (None,) * 4, (None,) * 4,
                          (None, None, None, 0), (4, None, None, None), (None,) * 4])

    def test_held_against_labels(self):
        chance = random.Random(101)
        across = 0
        for step in range(80):
            some = chance.choice([random_table, bare_table])(chance, chance.randrange(5, 14))
            web = random_web(chance, chance.randrange(1, 6), 4)
            told = prices(some, web)
            self.assertIsInstance(told, list)
            self.assertEqual(len(told), len(web))
            for number, found in enumerate(told):
                tree = plainly_opened(web, number)
                if opened(web)[number] <= 300:
                    self.assertIsInstance(found, tuple)
                    self.assertEqual(found, plain_prices(some, tree))
                    self.assertEqual(found[:len(some[0])], labels(some, tree)[0][1])
                    across += web[number] != tree
        self.assertGreater(across, 50)

    def test_trees_of_many_pieces(self):
        some = table("rm", ("r", ANY, 1), ("r", ("sum", R, R), 3), ("m", ("sum", ("sum", R, R), R), 5))
        web = (A,) + tuple(("sum", piece(number), piece(number)) for number in range(2999))
        told = prices(some, web)
        for number in (0, 1, 2, 30, 2998, 2999):
            cost = 2 ** number + 3 * (2 ** number - 1)
            half = 2 ** (number - 1) + 3 * (2 ** (number - 1) - 1) if number else None
            self.assertEqual(told[number][0], cost)
            self.assertEqual(told[number][1], None if number < 2 else cost - 3 - 3 + 5)
            self.assertEqual(told[number][2], None if number < 1 else 2 * half)
        self.assertEqual(prices(some, (bushy(100),)), [(100 + 3 * 99,) + plain_prices(some, bushy(100))[1:]])
        self.assertEqual(prices(PLAIN, (comb(40),)), [plain_prices(PLAIN, comb(40))])

    def test_passes_and_a_price_of_nothing(self):
        some = table("rmk", ("r", ANY, 0), ("m", R, 0), ("k", M, 7), ("r", ("at", "k"), 0))
        self.assertEqual(prices(some, (A, num(0))), [(0, 0, 7), (None, None, None)])

    def test_told_lists_are_the_askers_own(self):
        web = (A, ("turn", piece(0)))
        first, second = prices(PLAIN, web), prices(PLAIN, web)
        first.clear()
        self.assertEqual(len(second), 2)
        self.assertEqual(prices(PLAIN, web), second)


class TestAllStates(Checked):
    def check_states(self, some, told):
        """That a told web and its states are right as far as small trees show it."""
        self.assertIsInstance(told, tuple)
        web, states = told
        self.assertTrue(is_web(web))
        self.assertIsInstance(states, list)
        self.assertEqual((len(states), len(set(states))), (len(web), len(web)))
        for number, tree in enumerate(web):
            self.assertTrue(tree[0] in ("num", "name") or all(part[0] == "piece" for part in tree[1:]), tree)
            self.assertIsInstance(states[number], tuple)
            if opened(web)[number] <= 100:
                self.assertEqual(plain_state(some, plainly_opened(web, number))[0], states[number])
        self.assertIs(are_states(some, told), True)

    def test_by_hand(self):
        some = table("rm", ("r", ANY, 3), ("m", ("turn", R), 1), ("r", M, 1))
        self.check_states(some, all_states(some))
        # A name; a number; turns, by m or by r.
        self.assertEqual(set(all_states(some)[1]), {(0, None), (None, None), (1, 0)})
        some = table("r", ("r", ANY, 3), ("r", ("turn", ("turn", ("turn", R))), 1))
        self.check_states(some, all_states(some))
        self.assertEqual(set(all_states(some)[1]), {(0, None, None), (None, None, 0), (None, 0, None), (None,) * 3})

    def test_one_state(self):
        every = table("r", ("r", ANY, 3), ("r", ("from", 0, MOST), 9), ("r", ("turn", R), 0),
                      *[("r", (word, R, R), 2) for word in ("sum", "less", "by")])
        never = table("r", ("r", ("sum", R, R), 1))
        self.assertEqual(all_states(every, 1)[1], [(0,)])
        self.assertEqual(all_states(never, 1)[1], [(None,)])
        for some in (every, never):
            self.check_states(some, all_states(some, 1))
            self.assertIn(all_states(some, 1)[0][0][0], ("num", "name"))

    def test_all_none_and_prices_of_nothing(self):
        some = table("rm", ("r", ANY, 0), ("m", ("from", 1, 1), 0), ("r", ("sum", R, M), 0))
        self.check_states(some, all_states(some))
        self.assertEqual(set(all_states(some)[1]), {(0, None), (None, 0), (None, None)})

    def test_each_tree_drawn_has_one(self):
        chance = random.Random(102)
        sizes, refused = [], 0
        for step in range(90):
            some = chance.choice([bare_table, bare_table, random_table])(chance, chance.randrange(4, 13))
            try:
                told = all_states(some, 300)
            except TooMany:
                refused += 1
                continue
            self.check_states(some, told)
            leaves = leaves_for(some)
            found = {plain_state(some, leaf)[0]: leaf for leaf in leaves}
            for count in range(2, 4):
                for tree in trees_of(count, list(found.values())[:3]):
                    self.assertIn(plain_state(some, tree)[0], told[1])
            for tree in leaves + [random_tree(chance, 6) for draw in range(25)]:
                self.assertIn(plain_state(some, tree)[0], told[1])
            sizes.append(len(told[1]))
        self.assertGreater(max(sizes), 12)
        self.assertGreater(refused, 0)

    def test_limits(self):
        chance = random.Random(103)
        some_tables = [PLAIN, bound_table(0), bound_table(1), bound_table(20)]
        some_tables += [bare_table(chance, 8) for step in range(20)]
        checked = 0
        for some in some_tables:
            try:
                count = len(all_states(some)[1])
            except TooMany:
                continue
            self.assertEqual(len(all_states(some, count)[1]), count)
            self.assertEqual(len(all_states(some, limit=count + 1)[1]), count)
            if count > 1:
                checked += 1
                self.refused(all_states, some, count - 1)
                self.refused(all_states, some, 1)
        self.assertGreater(checked, 12)

    def test_endlessly_many(self):
        for limit in (1, 2, 3, 5, 10, 100, 199, 200, 201, 999, 1000):
            self.refused(all_states, ENDLESS, limit)
        self.refused(all_states, ENDLESS)
        # Endless by sums alone, and by a part within a pattern alone.
        by_sums = table("rm", ("r", ANY, 0), ("m", ANY, 0), ("r", ("sum", R, R), 1), ("m", ("sum", M, M), 0))
        by_parts = table("r", ("r", ANY, 0), ("r", ("turn", R), 1), ("r", ("turn", ("turn", ("turn", ANY))), 0),
                         ("r", ("turn", ("turn", ("by", R, R))), 0))
        for some in (by_sums, table("rm", *[tile[1:] for tile in ENDLESS[1]], ("m", R, 5))):
            for limit in (1, 50, 200, 1000):
                self.refused(all_states, some, limit)
        self.check_states(by_parts, all_states(by_parts))

    def test_a_pass_bounds_the_differences(self):
        for most in (0, 1, 2, 9, 60):
            some = bound_table(most)
            told = all_states(some, most + 2)
            self.check_states(some, told)
            self.assertEqual(sorted(state[0] for state in told[1] if state[0] is not None), list(range(most + 1)))
            self.assertIn((None, None), told[1])
            self.refused(all_states, some, most + 1)
        both = bound_table(6, ("r", ("sum", R, R), 2), ("m", ("sum", M, M), 0), ("r", ("by", R, M), 1))
        self.check_states(both, all_states(both))

    def test_left_out_it_is_two_hundred(self):
        just, more = bound_table(198), bound_table(199)
        self.assertEqual(len(all_states(just)[1]), 200)
        self.assertEqual(all_states(just), all_states(just, 200))
        self.refused(all_states, more)
        self.refused(all_states, more, 200)
        self.check_states(more, all_states(more, 201))
        self.assertEqual(len(all_states(bound_table(998), 1000)[1]), 1000)
        self.refused(all_states, bound_table(998), 999)
        self.refused(all_states, bound_table(999), 1000)

    def test_stretches(self):
        some = table("rm", ("r", ("from", 0, 5), 1), ("r", ("from", 5, 9), 3), ("m", ("from", 9, 10), 1),
                     ("m", ("from", MOST, MOST), 2), ("r", ("from", 3, MOST), 8), ("m", ("turn", ("from", 0, 0)), 1))
        told = all_states(some)
        self.check_states(some, told)
        for leaf in leaves_for(some):
            self.assertIn(plain_state(some, leaf)[0], told[1], leaf)
        # One number alone is unlike all others, names and signs.
        for number in (0, 1, 7, MOST):
            tiles = [("r", ANY, 1), ("r", ("turn", R), 1)] + [("r", (word, R, R), 1) for word in ("sum", "less", "by")]
            tiles += [("r", M, 3)] + [("m", ("from", 0, number - 1), 1)] * (number > 0)
            tiles += [("m", ("from", number + 1, MOST), 1)] * (number < MOST)
            some = table("rm", *tiles)
            self.check_states(some, all_states(some))
            self.assertEqual(set(all_states(some)[1]), {(0, None), (3, 0), (None, None)})
            found = [tree for tree, state in zip(*all_states(some)) if state == (None, None)]
            self.assertEqual(found, [num(number)])

    def test_told_lists_are_the_askers_own(self):
        first, second = all_states(PLAIN), all_states(PLAIN)
        kept = list(second[1])
        first[1].clear()
        self.assertEqual(second[1], kept)
        self.assertIs(are_states(PLAIN, second), True)
        self.assertEqual(second[1], kept)


class TestAreStates(Checked):
    SOME = bound_table(3)

    def told(self, web, states, some=SOME):
        return are_states(some, (web, states))

    def test_any_order_and_any_web(self):
        zero, one, two, three, none = (0, 0), (1, 0), (2, 0), (3, 0), (None, None)
        for leaf in (name("zz"), A):
            for empty in (num(0), num(MOST), ("by", piece(0), piece(0)), ("less", piece(0), piece(0))):
                web = (leaf, empty, ("turn", piece(0)), ("turn", piece(2)), ("turn", piece(3)))
                self.assertIs(self.told(web, [zero, none, one, two, three]), True)
        web = (num(7), A, ("turn", piece(1)), ("turn", piece(2)), ("turn", piece(3)))
        self.assertIs(self.told(web, [none, zero, one, two, three]), True)
        self.assertIs(self.told(web, [none, zero, one, three, two]), False)
        self.assertIs(self.told(web, [zero, none, one, two, three]), False)
        self.assertIs(self.told(web[1:], [zero, one, two, three]), False)

    def test_orders_at_random(self):
        chance = random.Random(104)
        turned_about = 0
        for step in range(60):
            some = chance.choice([self.SOME, PLAIN, bound_table(2, ("r", ("sum", R, R), 1), ("m", ("sum", M, M), 0))])
            web, states = all_states(some)
            order = list(range(len(web)))
            chance.shuffle(order)
            other = turned_web(web, order)
            if other is not None:
                self.assertIs(self.told(other, [states[number] for number in order], some), True)
                turned_about += order != sorted(order)
                self.assertIs(self.told(other, states, some), order == sorted(order))
        self.assertGreater(turned_about, 2)

    def test_left_out_doubled_and_bent(self):
        chance = random.Random(105)
        checked = 0
        for some in [self.SOME, PLAIN] + [bare_table(chance, 7) for step in range(14)]:
            try:
                web, states = all_states(some, 30)
            except TooMany:
                continue
            checked += 1
            self.assertIs(self.told(web, states, some), True)
            self.assertIs(self.told(web[:-1], states[:-1], some), False)
            self.assertIs(self.told(web, states[:-1], some), False)
            self.assertIs(self.told(web[:-1], states, some), False)
            self.assertIs(self.told(web + web[-1:], states + states[-1:], some), False)
            self.assertIs(self.told(web + web[-1:], states, some), False)
            self.assertIs(self.told(web, states + states[-1:], some), False)
            self.assertIs(self.told(web + (name("b"),), states + [plain_state(some, A)[0]], some), False)
            for number, state in enumerate(states):
                for k, had in enumerate(state):
                    others = [0, 1, True, "0", (0,), [0]] if had is None else [had + 1, had - 1, None, str(had), (had,)]
                    others += [bool(had)] if had in (0, 1) else []
                    for other in others:
                        bent = state[:k] + (other,) + state[k + 1:]
                        self.assertIs(self.told(web, states[:number] + [bent] + states[number + 1:], some), False, other)
                if set(state) != {None}:
                    higher = tuple(None if had is None else had + 1 for had in state)
                    self.assertIs(self.told(web, states[:number] + [higher] + states[number + 1:], some), False)
                for bent in (state[:-1], state + (None,), state + (0,), list(state), None, (state,), 0, True, ""):
                    self.assertIs(self.told(web, states[:number] + [bent] + states[number + 1:], some), False, bent)
        self.assertGreater(checked, 8)

    def test_a_tree_exchanged(self):
        chance = random.Random(106)
        found = {True: 0, False: 0}
        for step in range(40):
            some = chance.choice([self.SOME, PLAIN, bare_table(chance, 6)])
            try:
                web, states = all_states(some, 30)
            except TooMany:
                continue
            number = chance.randrange(len(web))
            trees = leaves_for(some) + [(word, piece(one), piece(other)) for word in ("sum", "less", "by")
                                        for one in range(number) for other in range(number)]
            trees += [("turn", piece(one)) for one in range(number)]
            for tree in chance.sample(trees, min(len(trees), 12)):
                other = web[:number] + (tree,) + web[number + 1:]
                good = all(plain_state(some, plainly_opened(other, k))[0] == states[k] for k in range(len(other)))
                self.assertIs(self.told(other, states, some), good, tree)
                found[good] += 1
        self.assertGreater(min(found.values()), 20)

    def test_a_state_left_out_with_its_tree(self):
        # Whatever needs the tree is made of others.
        some = table("rm", ("r", ANY, 1), ("m", ("from", 0, MOST), 1), ("r", ("turn", R), 1), ("r", ("sum", R, M), 0))
        self.assertIs(self.told((A, num(0), ("turn", piece(1))), [(0, None), (None, 0), (None, None)], some), True)
        self.assertIs(self.told((A, num(0)), [(0, None), (None, 0)], some), False)
        self.assertIs(self.told((A, ("by", piece(0), piece(0))), [(0, None), (None, None)], some), False)
        self.assertIs(self.told((num(0), ("turn", piece(0))), [(None, 0), (None, None)], some), False)
        self.assertIs(self.told((num(0), ("turn", piece(0)), A), [(None, 0), (None, None), (0, None)], some), True)

    def test_endlessly_many_are_never_all(self):
        for most in (1, 5, 60):
            web = (A, num(0)) + tuple(("turn", piece(number if number else 0)) for number in [0] + list(range(2, most + 1)))
            states = [(0, 0), (None, None)] + [(number, 0) for number in range(1, most + 1)]
            self.assertEqual([plain_state(ENDLESS, plainly_opened(web, k))[0] for k in range(2, 3)], states[2:3])
            self.assertIs(self.told(web, states, ENDLESS), False)
            self.assertIs(self.told(web, states, bound_table(most)), True)

    def test_trees_of_other_forms(self):
        right = (A, ("turn", piece(0)), num(2))
        some, states = bound_table(1), [(0, 0), (1, 0), (None, None)]
        self.assertIs(self.told(right, states, some), True)
        for tree in (("turn", A), ("turn", name("b")), ("turn", piece(1)), ("turn", piece(-1)), ("turn", piece(False)),
                     ["turn", piece(0)], ("turn", [piece(0)]), ("turn", ("turn", piece(0))), ("turn",), None, piece(0)):
            self.assertIs(self.told((A, tree, num(2)), states, some), False, tree)
        for tree in (("sum", piece(0), A), ("by", A, A), ("sum", num(2), piece(0)), ("turn", num(3)), num(True)):
            self.assertIs(self.told((A, ("turn", piece(0)), tree), states, some), False, tree)
        self.assertIs(self.told((A, ("turn", piece(0)), ("sum", piece(0), piece(1))), states, some), True)

    def test_forms(self):
        right = all_states(self.SOME)
        for thing in (list(right), right + (None,), right[:1], right[::-1], (list(right[0]), right[1]), {},
                      (right[0], tuple(right[1])), (right[0], None), (None, right[1]), ((), []), (right,)):
            self.assertIs(are_states(self.SOME, thing), False)
        for thing in ODD_THINGS + [deep_thing(60), deep_thing(60, list), [()] * 200000, [(0, 0)] * 60000]:
            self.assertIs(are_states(self.SOME, thing), False)
            self.assertIs(self.told(thing, right[1]), False)
            self.assertIs(self.told(right[0], thing), False)
            self.assertIs(self.told(right[0], right[1][:-1] + [thing]), False)
            self.assertIs(self.told(right[0][:-1] + (thing,), right[1]), False)
            self.assertIs(self.told(right[0], [thing] + right[1][1:]), False)

    def test_nothing_is_changed(self):
        web, states = all_states(self.SOME)
        kept = list(states)
        self.assertIs(self.told(web, states), True)
        self.assertEqual(states, kept)


class TestWalked(unittest.TestCase):
    def check_walk(self, some, states, web):
        told = walked(some, states, web)
        self.assertIsInstance(told, list)
        self.assertEqual(len(told), len(web))
        for entry, found in zip(told, prices(some, web)):
            self.assertIsInstance(entry, tuple)
            number, height = entry
            self.assertEqual(height, min([cost for cost in found if cost is not None], default=0))
            self.assertEqual(states[number], tuple(None if cost is None else cost - height for cost in found))
        return told

    def test_by_hand(self):
        some = bound_table(3)
        states = [(0, 0), (1, 0), (2, 0), (3, 0), (None, None)]
        self.assertEqual(walked(some, states, (A,)), [(0, 0)])
        self.assertEqual(walked(some, states, (turned(A, 2), ("turn", ("turn", piece(0))), ("sum", A, A), num(1))),
                         [(2, 0), (3, 0), (4, 0), (4, 0)])
        self.assertEqual(walked(some, states[::-1], (turned(A, 2), ("turn", piece(0)), num(1))), [(2, 0), (1, 0), (0, 0)])
        plain = table("r", ("r", ANY, 5), ("r", ("sum", R, R), 2))
        self.assertEqual(walked(plain, [(None,), (0,)], (A, ("sum", piece(0), piece(0)), ("turn", piece(1)), num(3))),
                         [(1, 5), (1, 12), (0, 0), (0, 0)])

    def test_held_against_prices(self):
        chance = random.Random(107)
        walks = 0
        for step in range(80):
            some = chance.choice([bare_table, random_table])(chance, chance.randrange(4, 13))
            try:
                states = all_states(some, 100)[1]
            except TooMany:
                continue
            web = random_web(chance, chance.randrange(1, 9), 5)
            told = self.check_walk(some, states, web)
            around = self.check_walk(some, states[::-1], web)
            self.assertEqual([len(states) - 1 - number for number, height in told], [number for number, height in around])
            mixed = list(states)
            chance.shuffle(mixed)
            self.check_walk(some, mixed, web)
            for number, entry in enumerate(told):
                if opened(web)[number] <= 100:
                    state, height = plain_state(some, plainly_opened(web, number))
                    self.assertEqual((states[entry[0]], entry[1]), (state, height))
            walks += 1
        self.assertGreater(walks, 50)

    def test_very_many_trees(self):
        some = table("rm", ("r", ANY, 1), ("r", ("sum", R, R), 3), ("m", R, 2), ("m", ("sum", ("turn", M), R), 1),
                     ("r", ("turn", R), 0), ("r", M, 2))
        states = all_states(some)[1]
        web = (A,) + tuple(("sum", piece(number), piece(number)) for number in range(2999))
        told = self.check_walk(some, states, web)
        for number in (0, 1, 100, 2999):
            self.assertEqual(told[number][1], 2 ** number + 3 * (2 ** number - 1))
        chance = random.Random(108)
        web = random_web(chance, 400, 3)
        self.check_walk(some, states, web)
        self.check_walk(some, states[::-1], (bushy(100), comb(40), turned(piece(0), 39)))

    def test_all_none(self):
        some = table("rm", ("r", ANY, 4), ("r", ("sum", R, R), 4), ("m", ("turn", ANY), 4))
        states = all_states(some)[1]
        empty = states.index(tuple([None] * len(columns(some))))
        told = self.check_walk(some, states, (A, ("sum", A, A), ("by", piece(1), piece(1)), ("sum", piece(1), piece(2)),
                                              num(0), ("turn", piece(4)), ("turn", piece(1))))
        self.assertEqual([height for number, height in told], [0, 12, 0, 0, 0, 0, 0])
        self.assertEqual([number for number, height in told][2:], [empty] * 5)

    def test_nothing_is_changed_and_all_is_the_askers_own(self):
        states = all_states(PLAIN)[1]
        kept = list(states)
        web = (A, ("sum", piece(0), piece(0)))
        first, second = walked(PLAIN, states, web), walked(PLAIN, states, web)
        self.assertEqual(states, kept)
        first.clear()
        states.reverse()
        self.assertEqual(len(second), 2)
        self.assertEqual([kept[number] for number, height in second],
                         [states[number] for number, height in walked(PLAIN, states, web)])


if __name__ == "__main__":
    unittest.main()
