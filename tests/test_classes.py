import random
import unittest

from rowsmith.classes import cheapest, is_cheapest, led_to
from rowsmith.counts import how_many
from rowsmith.errors import TooMany
from rowsmith.exchanges import exchanged, exchanges
from rowsmith.labels import labels
from rowsmith.straight import straight
from rowsmith.trees import is_tree, pieces, places, within
from rowsmith.treetexts import read
from samples import (ODD_THINGS, PLAIN, bare_table, bushy, check_refused, comb, deep_thing, name, num, plain_changed, random_table,
                     random_tree, table, turned)

A, B = name("a"), name("b")
ANY = ("any",)
R, M = ("at", "r"), ("at", "m")
WORDS = ("swap", "right", "left", "open", "shut", "off")
# Sums of names: only those that lean to the left, the last name last; turns cost much.
LEFT = table("rm", ("m", ANY, 0), ("r", M, 1), ("r", ("sum", R, M), 2), ("r", ("sum", R, R), 5), ("r", ("turn", R), 9),
             ("r", ("less", R, M), 3), ("r", ("by", M, R), 1))


def plainly_led_to(tree, most):
    """All trees to which exchanges lead, a set; None where there are more than most."""
    found, new = {tree}, [tree]
    while new:
        here = new.pop()
        for place in places(here):
            for word in WORDS:
                come = plain_changed(here, word, place)
                if come is not None and is_tree(come) and come not in found:
                    found.add(come)
                    new.append(come)
        if len(found) > most:
            return None
    return found


def least_price(some, tree, cls):
    return labels(some, tree)[0][1][some[0].index(cls)]


class Checked(unittest.TestCase):
    def refused(self, ask, *asked, **named):
        check_refused(self, TooMany, ask, *asked, **named)

    def check_led(self, tree, told):
        """That all trees are told once, each by an earlier one and an exchange that leads there."""
        self.assertIsInstance(told, list)
        self.assertEqual(told[0], (tree, None, None))
        for number, entry in enumerate(told):
            self.assertEqual((type(entry), len(entry)), (tuple, 3))
            if number:
                self.assertIs(type(entry[1]), int)
                self.assertTrue(0 <= entry[1] < number)
                self.assertIn(entry[2], exchanges(told[entry[1]][0]))
                self.assertEqual(exchanged(told[entry[1]][0], entry[2]), entry[0])
        found = [entry[0] for entry in told]
        self.assertEqual(len(set(found)), len(found))
        return found


class TestLedTo(Checked):
    def test_by_hand(self):
        for text, count in (("a", 1), ("7", 1), ("(- a)", 1), ("(a - a)", 4), ("(a + a)", 1), ("(a + b)", 2), ("(a - b)", 3),
                            ("(a * b)", 2), ("(- (- a))", 2), ("((a + b) + c)", 12), ("((a * b) + c)", 4), ("(- (- (- a)))", 2),
                            ("(- (a + b))", 2), ("((a + a) + a)", 2)):
            tree = read(text)
            told = led_to(tree)
            self.assertEqual(set(self.check_led(tree, told)), plainly_led_to(tree, 100))
            # Less, its sum with a turn, and this turned about; the same part twice makes no difference to it.
            self.assertEqual(len(told), 3 if text == "(a - a)" else count, text)

    def test_to_some_trees_none_leads(self):
        self.assertNotIn(read("(- (- a))"), [entry[0] for entry in led_to(A)])
        self.assertIn(A, [entry[0] for entry in led_to(read("(- (- a))"))])
        self.assertNotIn(read("((a * c) + (b * c))"), [entry[0] for entry in led_to(read("((a + b) * c)"))])
        self.assertNotIn(read("(b - a)"), [entry[0] for entry in led_to(read("(a - b)"))])

    def test_at_random(self):
        chance = random.Random(151)
        sizes = []
        for step in range(200):
            tree = random_tree(chance, chance.randrange(1, 5))
            wanted = plainly_led_to(tree, 120)
            if wanted is None:
                self.refused(led_to, tree, 120)
                continue
            told = led_to(tree)
            self.assertEqual(set(self.check_led(tree, told)), wanted)
            self.assertEqual({tuple(straight(one)) for one in wanted}, {tuple(straight(tree))})
            count = len(wanted)
            sizes.append(count)
            self.assertEqual(len(led_to(tree, count)), count)
            self.assertEqual(len(led_to(tree, limit=count + 1)), count)
            if count > 1:
                self.refused(led_to, tree, count - 1)
                self.refused(led_to, tree, 1)
        self.assertGreater(max(sizes), 40)
        self.assertGreater(len(sizes), 80)

    def test_left_out_it_is_two_hundred(self):
        # As many swaps that each can be done or not: 2 ** 7 trees, and 2 ** 8.
        fewer = more = ("by", A, B)
        for step in range(7):
            fewer = more
            more = ("by" if step % 2 else "sum", num(step), more)
        self.assertEqual(len(led_to(fewer)), 128)
        just, beyond = read("(((- (- (- (- c)))) + (a + c)) + c)"), read("(((- (- (- (- (- (- b)))))) + (- b)) - (- (- b)))")
        self.assertEqual((len(plainly_led_to(just, 300)), len(plainly_led_to(beyond, 300))), (200, 201))
        self.assertEqual((len(led_to(just)), len(cheapest(LEFT, just, "r")[2])), (200, 200))
        self.assertEqual((len(led_to(beyond, 201)), len(cheapest(LEFT, beyond, "r", 201)[2])), (201, 201))
        self.refused(led_to, beyond)
        self.refused(cheapest, LEFT, beyond, "r")
        self.refused(led_to, just, 199)
        self.refused(cheapest, LEFT, just, "r", 199)
        self.refused(led_to, more)
        self.refused(led_to, more, 200)
        self.assertEqual(len(led_to(more, 256)), 256)
        self.refused(led_to, more, 255)
        self.assertEqual(len(led_to(("less", A, more), 1000)), 256 * 3)

    def test_great_trees(self):
        for tree in (bushy(100), comb(40), comb(39, "by")):
            self.refused(led_to, tree)
            self.refused(led_to, tree, 1000)
        # Where open or right would come to more than a tree may have.
        deep = turned(("less", A, A), 38)
        self.assertEqual(within(deep), 40)
        told = led_to(deep)
        self.assertEqual(set(self.check_led(deep, told)), plainly_led_to(deep, 500))
        self.assertEqual(len([entry for entry in told if within(entry[0]) == 40]), 1)
        wide = ("less", turned(bushy(98, "less"), 3), A)
        self.assertEqual(pieces(wide), 200)
        self.refused(led_to, wide, 60)

    def test_told_lists_are_the_askers_own(self):
        tree = read("((a + b) + c)")
        first, second = led_to(tree), led_to(tree)
        first.clear()
        self.assertEqual(len(second), 12)


class TestCheapest(Checked):
    def check(self, some, tree, cls, told):
        """That what is told is right, held against all trees."""
        self.assertEqual((type(told), len(told)), (tuple, 3))
        price, chain, trees = told
        found = self.check_led(tree, trees)
        costs = [least_price(some, one, cls) for one in found]
        costs = [cost for cost in costs if cost is not None]
        self.assertIsInstance(chain, list)
        if not costs:
            self.assertEqual((price, chain), (None, []))
        else:
            self.assertIs(type(price), int)
            self.assertEqual(price, min(costs))
            here = tree
            for exchange in chain:
                here = exchanged(here, exchange)
            self.assertEqual(least_price(some, here, cls), price)
        self.assertIs(is_cheapest(some, tree, cls, told), True)
        return price

    def test_by_hand(self):
        for text, price in (("a", 1), ("(a + b)", 3), ("((a + b) + c)", 5), ("(a + (b + c))", 5), ("((a + b) + (c + d))", 7),
                            ("(a + (- b))", 4), ("((- b) + a)", 4), ("(- (- a))", 1), ("(- a)", 10), ("(7 + a)", None)):
            tree = read(text)
            told = cheapest(LEFT, tree, "r")
            self.assertEqual(self.check(LEFT, tree, "r", told), price, text)
        self.assertEqual(cheapest(LEFT, A, "r"), (1, [], [(A, None, None)]))
        self.assertEqual(cheapest(LEFT, num(7), "r"), (None, [], [(num(7), None, None)]))
        self.assertEqual(cheapest(LEFT, read("(a + b)"), "m")[:2], (None, []))

    def test_held_against_all_trees(self):
        chance = random.Random(152)
        better, none = 0, 0
        for step in range(150):
            tree = random_tree(chance, chance.randrange(1, 5))
            some = chance.choice([PLAIN, LEFT, random_table(chance, 12), bare_table(chance, 9)])
            cls = chance.choice(some[0])
            if plainly_led_to(tree, 60) is None:
                self.refused(cheapest, some, tree, cls, 60)
                continue
            told = cheapest(some, tree, cls)
            price = self.check(some, tree, cls, told)
            none += price is None
            better += price is not None and (how_many(some, tree, cls) == 0 or price < least_price(some, tree, cls))
        self.assertGreater(min(better, none), 8)

    def test_limits(self):
        tree = read("((a + b) + c)")
        self.assertEqual(self.check(LEFT, tree, "r", cheapest(LEFT, tree, "r", 12)), 5)
        self.assertEqual(cheapest(LEFT, tree, "r", limit=13)[0], 5)
        self.refused(cheapest, LEFT, tree, "r", 11)
        self.refused(cheapest, LEFT, tree, "m", 1)
        self.refused(cheapest, LEFT, bushy(30), "r")
        self.assertEqual(cheapest(LEFT, num(7), "r", 1)[0], None)

    def test_told_lists_are_the_askers_own(self):
        tree = read("(c + (a + b))")
        first, second = cheapest(LEFT, tree, "r"), cheapest(LEFT, tree, "r")
        first[1].append(None)
        first[2].clear()
        self.check(LEFT, tree, "r", second)


class TestIsCheapest(Checked):
    TREE = read("(a + (b + c))")

    def told(self, thing, tree=TREE, cls="r", some=LEFT):
        return is_cheapest(some, tree, cls, thing)

    def test_prices(self):
        price, chain, trees = cheapest(LEFT, self.TREE, "r")
        self.assertEqual(price, 5)
        for other in (4, 6, 0, -5, None, True, "5", (5,), [5], 10 ** 59):
            self.assertIs(self.told((other, chain, trees)), False, other)
        one = table("r", ("r", ("sum", ANY, ANY), 1))
        self.assertIs(is_cheapest(one, read("(a + a)"), "r", (1, [], [(read("(a + a)"), None, None)])), True)
        self.assertIs(is_cheapest(one, read("(a + a)"), "r", (True, [], [(read("(a + a)"), None, None)])), False)
        free = table("r", ("r", ANY, 0))
        self.assertIs(is_cheapest(free, A, "r", (0, [], [(A, None, None)])), True)
        self.assertIs(is_cheapest(free, A, "r", (False, [], [(A, None, None)])), False)
        self.assertIs(is_cheapest(free, A, "r", (None, [], [(A, None, None)])), False)
        self.assertIs(is_cheapest(free, num(1), "r", (None, [], [(num(1), None, None)])), True)
        self.assertIs(is_cheapest(free, num(1), "r", (0, [], [(num(1), None, None)])), False)

    def test_chains(self):
        price, chain, trees = cheapest(LEFT, self.TREE, "r")
        costs = {entry[0]: least_price(LEFT, entry[0], "r") for entry in trees}
        self.assertEqual(len(costs), 12)
        for first in [[]] + [[exchange] for exchange in exchanges(self.TREE)]:
            here = self.TREE
            for exchange in first:
                here = exchanged(here, exchange)
            for exchange in [None] + exchanges(here):
                longer = first + [exchange] * (exchange is not None)
                end = here if exchange is None else exchanged(here, exchange)
                self.assertIs(self.told((price, longer, trees)), costs[end] == price, longer)
        self.assertIs(self.told((price, [("left", ())], trees)), True)
        self.assertIs(self.told((price, [("swap", ())] * 2 + [("left", ())], trees)), True)
        self.assertIs(self.told((price, [("swap", ())] * 4000 + [("left", ())], trees)), True)
        for wrong in ([], [("right", ())], [("left", ()), ("left", ())], [("left", ()), ("swap", ())], [("left", (0,))], [None],
                      [("left", ()), None], [["left", ()]], [("left", [])], [("left", (True,))], (("left", ()),), None, "left",
                      [("off", ())], [("swap", (True,)), ("swap", (1,)), ("left", ())], [("swap", ())] * 3000, {}):
            self.assertIs(self.told((price, wrong, trees)), False, str(wrong)[:200])
        self.assertIs(self.told((price, [("swap", (1,)), ("swap", (1,)), ("left", ())], trees)), True)

    def test_chains_where_there_is_no_cover(self):
        tree = read("(7 + a)")
        price, chain, trees = cheapest(LEFT, tree, "r")
        self.assertIs(self.told((None, [], trees), tree), True)
        for wrong in ([("swap", ())], [("swap", ())] * 2, None, (), [None]):
            self.assertIs(self.told((None, wrong, trees), tree), False)
        self.assertIs(self.told((0, [], trees), tree), False)

    def test_rows_left_out_doubled_and_bent(self):
        price, chain, trees = cheapest(LEFT, self.TREE, "r")
        self.assertIs(self.told((price, chain, trees)), True)
        for number, entry in enumerate(trees):
            self.assertIs(self.told((price, chain, trees[:number] + trees[number + 1:])), False)
            self.assertIs(self.told((price, chain, trees[:number] + [entry] + trees[number:])), False)
            self.assertIs(self.told((price, chain, trees + [entry])), False)
            for bent in ((A,) + entry[1:], (entry[0], None, None), entry[:1] + (0, None), entry[:1] + (None, ("swap", ())),
                         (entry[0], (entry[1] or 0) - len(trees), entry[2]), (None,) + entry[1:], list(entry),
                         entry[:2], entry + (None,), None, (), entry[0], (entry,), (entry[0], number, entry[2]),
                         (entry[0], number + 1, entry[2]), (entry[0], -1, entry[2]), (entry[0], str(entry[1]), entry[2])):
                if bent != entry:
                    self.assertIs(self.told((price, chain, trees[:number] + [bent] + trees[number + 1:])), False, bent)
            if number:
                for ahead in range(number):
                    good = any(exchanged(trees[ahead][0], one) == entry[0] for one in exchanges(trees[ahead][0]) if one == entry[2])
                    bent = (entry[0], ahead, entry[2])
                    self.assertIs(self.told((price, chain, trees[:number] + [bent] + trees[number + 1:])), good)
                for word in WORDS:
                    for place in places(trees[entry[1]][0]):
                        come = plain_changed(trees[entry[1]][0], word, place)
                        bent = (entry[0], entry[1], (word, place))
                        self.assertIs(self.told((price, chain, trees[:number] + [bent] + trees[number + 1:])),
                                      come == entry[0])

    def test_truths(self):
        tree = read("((a + b) + 1)")
        price, chain, trees = cheapest(PLAIN, tree, "r")
        self.assertIs(self.told((price, chain, trees), tree, "r", PLAIN), True)
        for number, (one, ahead, exchange) in enumerate(trees):
            bent = [(with_truths(one), ahead, exchange)]
            if ahead in (0, 1):
                bent.append((one, bool(ahead), exchange))
            if exchange is not None and exchange[1]:
                bent.append((one, ahead, (exchange[0], tuple(bool(step) for step in exchange[1]))))
            for entry in bent:
                self.assertIs(self.told((price, chain, trees[:number] + [entry] + trees[number + 1:]), tree, "r", PLAIN), False)

    def test_a_tree_that_leads_to_itself(self):
        tree = read("((a + a) - b)")
        price, chain, trees = cheapest(LEFT, tree, "r")
        same = [number for number, entry in enumerate(trees) if ("swap", (0,)) in exchanges(entry[0])
                and exchanged(entry[0], ("swap", (0,))) == entry[0]]
        self.assertGreater(len(same), 1)
        for number in same:
            bent = (trees[number][0], number, ("swap", (0,)))
            self.assertIs(self.told((price, chain, trees[:number] + [bent] + trees[number + 1:]), tree), False)
        self.assertIs(self.told((price, [("swap", (0,))] + chain, trees), tree), True)

    def test_one_tree_alone(self):
        for tree in (num(1), num(0), A):
            price = least_price(PLAIN, tree, "r")
            self.assertIs(self.told((price, [], [(tree, None, None)]), tree, "r", PLAIN), True)
            for first in (("num", True), ("num", False), num(2), name("b"), ["name", "a"], list(tree)):
                self.assertIs(self.told((price, [], [(first, None, None)]), tree, "r", PLAIN), False)

    def test_trees_at_the_bounds(self):
        # From some of them an exchange comes to more than a tree may have.
        deep = turned(("less", A, A), 38)
        price, chain, trees = cheapest(LEFT, deep, "r")
        self.assertEqual(within(deep), 40)
        self.assertIs(self.told((price, chain, trees), deep), True)
        beyond = (plain_changed(deep, "open", (0,) * 38), 0, ("open", (0,) * 38))
        self.assertEqual(within(beyond[0]), 41)
        self.assertIs(self.told((price, chain, trees + [beyond]), deep), False)

    def test_another_order(self):
        tree = read("((a + b) - c)")
        price, chain, trees = cheapest(LEFT, tree, "r")
        found = [(tree, None, None)]
        # Depth first, the other way round.
        while len(found) < len(trees):
            for ahead in range(len(found) - 1, -1, -1):
                new = [(exchanged(found[ahead][0], one), ahead, one) for one in reversed(exchanges(found[ahead][0]))]
                new = [entry for entry in new if entry[0] not in [had[0] for had in found]]
                if new:
                    found.append(new[0])
                    break
        self.assertEqual({entry[0] for entry in found}, {entry[0] for entry in trees})
        self.assertIs(self.told((price, chain, found), tree), True)
        self.assertIs(self.told((price, chain, found[1:]), tree), False)
        self.assertIs(self.told((price, chain, found[::-1]), tree), False)
        self.assertIs(self.told((price, chain, found), found[1][0]), False)

    def test_at_random(self):
        chance = random.Random(153)
        for step in range(80):
            tree = random_tree(chance, chance.randrange(1, 5))
            some = chance.choice([PLAIN, LEFT, random_table(chance, 10)])
            cls = chance.choice(some[0])
            try:
                price, chain, trees = cheapest(some, tree, cls, 60)
            except TooMany:
                continue
            self.assertIs(self.told((price, chain, trees), tree, cls, some), True)
            self.assertIs(self.told((price, chain, trees[:-1]), tree, cls, some), False)
            self.assertIs(self.told((price, chain, trees + trees[-1:]), tree, cls, some), False)
            for end in trees:
                way, entry = [], end
                while entry[1] is not None:
                    way.insert(0, entry[2])
                    entry = trees[entry[1]]
                good = way == [] if price is None else least_price(some, end[0], cls) == price
                self.assertIs(self.told((price, way, trees), tree, cls, some), good)

    def test_forms(self):
        right = cheapest(LEFT, self.TREE, "r")
        for thing in ODD_THINGS + [deep_thing(60), deep_thing(60, list), [()] * 200000, {}]:
            self.assertIs(self.told(thing), False)
            for at in range(3):
                if repr(thing) != repr(right[at]):
                    self.assertIs(self.told(right[:at] + (thing,) + right[at + 1:]), False, thing)
            self.assertIs(self.told(right[:2] + (right[2][:-1] + [thing],)), False)
            self.assertIs(self.told(right[:2] + (right[2] + [thing],)), False)
            self.assertIs(self.told(right[:2] + ([thing] + right[2],)), False)
            self.assertIs(self.told((right[0], right[1] + [thing], right[2])), False)
            self.assertIs(self.told(right[:2] + (right[2][:-1] + [right[2][-1][:2] + (thing,)],)), False)
        for thing in (list(right), right[:2], right + (None,), right[::-1], (right,), right[:2] + (tuple(right[2]),),
                      (right[0], tuple(right[1]), right[2]), (right[0], right[2], right[1])):
            self.assertIs(self.told(thing), False)

    def test_nothing_is_changed(self):
        price, chain, trees = cheapest(LEFT, self.TREE, "r")
        kept = list(chain), list(trees)
        self.assertIs(self.told((price, chain, trees)), True)
        self.assertEqual((chain, trees), kept)


def with_truths(tree):
    """A tree with a truth in each place of a 1."""
    if tree[0] == "num":
        return "num", tree[1] == 1
    return tree if tree[0] == "name" else (tree[0],) + tuple(with_truths(part) for part in tree[1:])


if __name__ == "__main__":
    unittest.main()
