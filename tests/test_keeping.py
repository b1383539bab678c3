import itertools
import random
import unittest

from rowsmith.errors import NoName, NoRow, NoText, NotRight, RowsmithError, TooMany
from rowsmith.keeping import front_price, is_keeping, keeping
from rowsmith.tables import is_table
from rowsmith.webs import is_web, web_labels
from samples import (ODD_THINGS, bare_table, bushy, deep_thing, name, num, piece, plain_cost, random_table,
                     random_web, table)

A = name("a")
AT = ("at", "r")
ANY = ("any",)
# Class a: names and sums, 5 each; b from a for 2; c from b for 4; nothing leads back.
CHAIN = table("abc", ("a", ANY, 5), ("a", ("sum", ("at", "a"), ("at", "a")), 5), ("b", ("at", "a"), 2),
              ("c", ("at", "b"), 4), ("c", ("at", "a"), 9))


def by_passes(some, kept, cls, seen=()):
    """The least price of passes alone from a class to another, by going all ways."""
    if kept == cls:
        return 0
    ways = [(tile[3], by_passes(some, tile[1], cls, seen + (kept,))) for tile in some[1]
            if tile[2] == ("at", kept) and tile[1] not in seen]
    return min([cost + rest for cost, rest in ways if rest is not None], default=None)


def plain_front(some, web, goals, front):
    """The price of a front, by the words of the document."""
    had, costs = [], []
    for tree, kept in itertools.zip_longest(web, front, fillvalue="beyond"):
        if kept == "beyond":
            had.append((0,) * len(some[0]))
            continue
        label = tuple(plain_cost(some, tree, cls, had) for cls in some[0])
        if kept is None:
            had.append(label)
        else:
            costs.append(label[some[0].index(kept)])
            had.append(tuple(by_passes(some, kept, cls) for cls in some[0]))
    costs += [had[number][some[0].index(cls)] for number, cls in goals]
    return None if None in costs else sum(costs)


def all_fronts(some, web):
    return list(itertools.product((None,) + some[0], repeat=len(web)))


def plainly_right(some, web, goals, thing):
    """Whether a tuple of the right form is right, by the words of the document."""
    price, front, cuts = thing
    if (price is None) != (front is None) or len(set(cuts)) != len(cuts):
        return False
    if front is not None and (len(front) != len(web) or plain_front(some, web, goals, front) != price):
        return False
    for other in all_fronts(some, web):
        begun = sum(other[:len(cut)] == cut for cut in cuts)
        if begun != (other != front):
            return False
    prices = [plain_front(some, web, goals, cut) for cut in cuts]
    return all(had is None or (price is not None and had >= price) for had in prices)


def random_goals(chance, some, web, most):
    return [(chance.randrange(len(web)), chance.choice(some[0])) for goal in range(chance.randrange(1, most))]


class TestFrontPrice(unittest.TestCase):
    def test_empty_and_shorter(self):
        web = (A, ("sum", piece(0), piece(0)), ("sum", piece(1), piece(0)))
        self.assertEqual(web_labels(CHAIN, web), [(5, 7, 11), (15, 17, 21), (25, 27, 31)])
        goals = [(2, "a"), (0, "a")]
        self.assertEqual(front_price(CHAIN, web, goals, ()), 0)
        self.assertEqual(front_price(CHAIN, web, goals, (None,)), 5)
        self.assertEqual(front_price(CHAIN, web, goals, ("a",)), 5)
        self.assertEqual(front_price(CHAIN, web, [(2, "a")], ("a",)), 5)
        self.assertEqual(front_price(CHAIN, web, [(2, "a")], (None,)), 0)
        self.assertEqual(front_price(CHAIN, web, [(2, "a")], ("a", "a")), 10)
        self.assertEqual(front_price(CHAIN, web, [(2, "a")], ("a", "a", None)), 15)
        self.assertEqual(front_price(CHAIN, web, [(2, "a")], ("a", "a", "a")), 15)
        self.assertEqual(front_price(CHAIN, web, [(2, "a")], (None, None, None)), 25)
        self.assertEqual(front_price(CHAIN, web, [(2, "a")], (None, "a", None)), 25)
        self.assertEqual(front_price(CHAIN, web, [(2, "a")], ("a", None, None)), 15)
        self.assertEqual(front_price(CHAIN, web, [], ("a", "a", None)), 10)
        self.assertEqual(front_price(CHAIN, web, [], ()), 0)

    def test_passes_from_the_kept_class(self):
        web = (A,)
        for goal, front, cost in (("a", "a", 5), ("b", "a", 7), ("c", "a", 11), ("a", "b", None), ("b", "b", 7),
                                  ("c", "b", 11), ("a", "c", None), ("b", "c", None), ("c", "c", 11),
                                  ("a", None, 5), ("b", None, 7), ("c", None, 11)):
            self.assertEqual(front_price(CHAIN, web, [(0, goal)], (front,)), cost, (goal, front))
        short = table("abc", *[tile[1:] for tile in CHAIN[1][:4]], ("c", ("at", "a"), 1))
        self.assertEqual(front_price(short, web, [(0, "c")], ("a",)), 6)
        self.assertEqual(front_price(short, web, [(0, "c")], ("b",)), 11)

    def test_a_kept_tree_within_another(self):
        some = table("rm", ("r", ANY, 2), ("r", ("turn", ("at", "m")), 3), ("m", ("turn", AT), 7), ("r", ("at", "m"), 1))
        web = (A, ("turn", piece(0)), ("turn", piece(1)), ("turn", piece(2)))
        self.assertEqual(front_price(some, web, [(3, "r")], ("r", "m", "r", "m")), 2 + 7 + 3 + 7 + 1)
        self.assertEqual(front_price(some, web, [(3, "r")], ("r", "r", "r", "m")), 2 + 8 + 8 + 7 + 1)
        self.assertEqual(front_price(some, web, [(1, "m"), (3, "m")], ("r", "m", None, "m")), 2 + 7 + 3 + 7)
        self.assertEqual(front_price(some, web, [(1, "m")], ("m",)), None)
        self.assertEqual(front_price(some, web, [(1, "m")], (None, "m")), 9)

    def test_a_goal_told_twice(self):
        web = (A, ("sum", piece(0), A))
        self.assertEqual(front_price(CHAIN, web, [(1, "a")], (None, None)), 15)
        self.assertEqual(front_price(CHAIN, web, [(1, "a"), (1, "a")], (None, None)), 30)
        self.assertEqual(front_price(CHAIN, web, [(1, "b"), (1, "b"), (1, "a")], (None, "a")), 19)
        self.assertEqual(front_price(CHAIN, web, [(1, "b")] * 6, ("a", "a")), 5 + 10 + 12)

    def test_none(self):
        web = (("less", A, A), A, ("sum", piece(0), piece(1)))
        self.assertEqual(front_price(CHAIN, web, [(1, "a")], (None, None, None)), 5)
        self.assertEqual(front_price(CHAIN, web, [(1, "a")], ("a",)), None)
        self.assertEqual(front_price(CHAIN, web, [(0, "a")], (None,)), None)
        self.assertEqual(front_price(CHAIN, web, [(2, "a")], (None,)), 0)
        self.assertEqual(front_price(CHAIN, web, [(2, "a")], (None, None)), 0)
        self.assertEqual(front_price(CHAIN, web, [(2, "a")], (None, None, None)), None)
        self.assertEqual(front_price(CHAIN, web, [(1, "a")], (None, None, "a")), None)
        self.assertEqual(front_price(CHAIN, web, [(2, "a"), (1, "a")], (None, "a", "a")), None)

    def test_a_web_of_three_thousand(self):
        web = (A,) + tuple(("sum", piece(number), piece(number)) for number in range(2999))
        self.assertEqual(front_price(CHAIN, web, [(2999, "c")], ("a",) * 3000), 5 * 3000 + 6)
        self.assertEqual(front_price(CHAIN, web, [(2999, "a")], (None,) * 3000), 5 * (2 ** 3000 - 1))
        self.assertEqual(front_price(CHAIN, web, [(2999, "a")], ("a",) * 2999), 5 * 2999)

    def test_random_fronts(self):
        chance = random.Random(71)
        found = {True: 0, False: 0}
        for step in range(300):
            some = chance.choice([random_table, bare_table])(chance, chance.randrange(6, 14))
            web = random_web(chance, chance.randrange(1, 5), 3)
            goals = random_goals(chance, some, web, 7)
            front = tuple(chance.choice((None,) + some[0]) for tree in web[:chance.randrange(len(web) + 1)])
            told = front_price(some, web, goals, front)
            self.assertEqual(told, plain_front(some, web, goals, front))
            found[told is None] += 1
        self.assertGreater(min(found.values()), 50)

    def test_nothing_is_changed(self):
        web, goals = (A, ("sum", piece(0), A)), [(1, "b")]
        first = front_price(CHAIN, web, goals, ("a", None))
        self.assertEqual(goals, [(1, "b")])
        goals[0] = (0, "a")
        self.assertNotEqual(front_price(CHAIN, web, goals, ("a", None)), first)


class TestKeeping(unittest.TestCase):
    def check(self, some, web, goals):
        told = keeping(some, web, goals)
        self.assertIsInstance(told, tuple)
        self.assertEqual(len(told), 3)
        self.assertIsInstance(told[2], list)
        prices = [plain_front(some, web, goals, front) for front in all_fronts(some, web)]
        self.assertEqual(told[0], min([price for price in prices if price is not None], default=None))
        self.assertTrue(plainly_right(some, web, goals, told))
        self.assertIs(is_keeping(some, web, goals, told), True)
        return told

    def test_worth_keeping_or_not(self):
        some = table("r", ("r", ANY, 2), ("r", ("turn", AT), 10))
        web = (("turn", A), ("turn", piece(0)))
        told = self.check(some, web, [(1, "r"), (1, "r")])
        self.assertEqual(told[0], 22)
        self.assertEqual(told[1][1], "r")
        some = table("rm", ("m", ANY, 2), ("r", ("turn", ("at", "m")), 1), ("m", AT, 50))
        told = self.check(some, (A, ("turn", piece(0))), [(0, "m"), (1, "r")])
        self.assertEqual(told[:2], (3, ("m", None)) if told[1][1] is None else (3, ("m", "r")))

    def test_one_tree_and_six(self):
        self.assertEqual(self.check(CHAIN, (A,), [(0, "c")])[0], 11)
        web = (A,) + tuple(("sum", piece(number), piece(number)) for number in range(5))
        single = table("r", ("r", ANY, 5), ("r", ("sum", AT, AT), 5))
        self.assertEqual(self.check(single, web, [(5, "r")])[:2], (30, ("r",) * 5 + (self_choice(single, web),)))
        self.assertEqual(self.check(single, web, [(k, "r") for k in range(6)])[0], 30)
        double = table("rm", ("r", ANY, 5), ("r", ("sum", AT, ("at", "m")), 5), ("m", AT, 1))
        self.check(double, web, [(5, "r"), (4, "m"), (5, "m")])

    def test_none_has_a_price(self):
        told = self.check(CHAIN, (("less", A, A),), [(0, "a")])
        self.assertEqual(told[:2], (None, None))
        told = self.check(CHAIN, (A, ("less", A, A), ("sum", piece(0), piece(1))), [(0, "a"), (2, "b")])
        self.assertEqual(told[:2], (None, None))
        self.assertEqual(self.check(CHAIN, (A, ("less", A, A)), [(0, "a")])[0], 5)

    def test_random_webs(self):
        chance = random.Random(72)
        lengths = set()
        for step in range(60):
            some = chance.choice([random_table, random_table, bare_table])(chance, chance.randrange(6, 14))
            web = random_web(chance, chance.randrange(1, 5 if len(some[0]) < 3 else 4), 3)
            told = self.check(some, web, random_goals(chance, some, web, 7))
            lengths.update((told[0] is None, len(web) - len(cut)) for cut in told[2])
        self.assertGreaterEqual(lengths, {(True, 0), (True, 1), (False, 0), (False, 1)})

    def refused(self, some, web):
        for ask in (lambda: keeping(some, web, [(0, "a")]), lambda: is_keeping(some, web, [(0, "a")], None),
                    lambda: is_keeping(some, web, [(0, "a")], (5, ("a",) * len(web), []))):
            with self.assertRaises(TooMany) as caught:
                ask()
            self.assertIsInstance(caught.exception, RowsmithError)
            self.assertNotIsInstance(caught.exception, (NoName, NotRight, NoText, NoRow))

    def test_too_many(self):
        # For each count of classes the most trees that come to no more than 5,000.
        for classes, trees in (("a", 6), ("ab", 6), ("abc", 6), ("abcd", 5), ("abcde", 4), ("abcdef", 4)):
            some = table(classes, ("a", ANY, 1), *[(cls, ("at", "a"), 1) for cls in classes[1:]])
            self.assertTrue(is_table(some))
            told = keeping(some, (A,) * trees, [(0, "a")])
            self.assertEqual(told[0], 1)
            self.assertIs(is_keeping(some, (A,) * trees, [(0, "a")], told), True)
            self.assertIs(is_keeping(some, (A,) * trees, [(0, "a")], None), False)
            if trees < 6:
                self.refused(some, (A,) * (trees + 1))
                self.refused(some, (A,) * 6)

    def test_great_trees(self):
        wide = bushy(100)

        def pieced(tree, number):
            if tree[0] == "name":
                return piece(ord(tree[1]) % number)
            return (tree[0],) + tuple(pieced(part, number) for part in tree[1:])
        web = (wide,) + tuple(pieced(wide, number) for number in range(1, 6))
        self.assertTrue(is_web(web))
        some = table("abc", *[("abc"[k % 3], ("sum", ("at", "abc"[k // 3 % 3]), ("at", "abc"[k // 9])), k % 7 + 1)
                              for k in range(27)], ("a", ANY, 1), ("b", ("at", "a"), 3), ("c", ("at", "b"), 2))
        goals = [(5, "a"), (4, "b"), (5, "c")]
        told = keeping(some, web, goals)
        self.assertIs(is_keeping(some, web, goals, told), True)
        self.assertEqual(front_price(some, web, goals, told[1]), told[0])

    def test_told_lists_are_the_askers_own(self):
        web, goals = (A, ("sum", piece(0), A)), [(1, "b"), (0, "a")]
        first, second = keeping(CHAIN, web, goals), keeping(CHAIN, web, goals)
        kept = list(second[2])
        self.assertIsNot(first[2], second[2])
        first[2].clear()
        self.assertEqual(second[2], kept)
        self.assertEqual(goals, [(1, "b"), (0, "a")])
        self.assertIs(is_keeping(CHAIN, web, goals, keeping(CHAIN, web, goals)), True)


def self_choice(some, web):
    """What keeping has chosen for the last tree, where both choices come to the same."""
    return keeping(some, web, [(len(web) - 1, "r")])[1][-1]


class TestIsKeeping(unittest.TestCase):
    def setUp(self):
        self.web = (A, ("sum", piece(0), A))
        self.goals = [(1, "b"), (0, "a")]
        fronts = all_fronts(CHAIN, self.web)
        prices = {front: plain_front(CHAIN, self.web, self.goals, front) for front in fronts}
        self.price = min(price for price in prices.values() if price is not None)
        self.best = [front for front in fronts if prices[front] == self.price]
        self.front = self.best[0]
        self.cuts = [front for front in fronts if front != self.front]

    def told(self, price, front, cuts):
        return is_keeping(CHAIN, self.web, self.goals, (price, front, cuts))

    def test_all_other_fronts_as_cuts(self):
        self.assertIs(self.told(self.price, self.front, self.cuts), True)
        self.assertIs(self.told(self.price, self.front, self.cuts[::-1]), True)
        self.assertGreater(len(self.best), 1)
        for front in self.best:
            cuts = [other for other in self.cuts + [self.front] if other != front]
            self.assertIs(self.told(self.price, front, cuts), True)

    def test_shorter_cuts(self):
        rest = [cut for cut in self.cuts if cut[0] != "c"]
        self.assertIs(self.told(self.price, self.front, rest + [("c",)]), True)
        self.assertIs(self.told(self.price, self.front, self.cuts + [("c",)]), False)
        self.assertIs(self.told(self.price, self.front, rest), False)
        # Short ones may cost less than the told one.
        self.assertLess(front_price(CHAIN, self.web, self.goals, ("a",)), self.price)
        for first in (None, "a"):
            if first != self.front[0]:
                rest = [cut for cut in self.cuts if cut[0] != first]
                self.assertIs(self.told(self.price, self.front, rest + [(first,)]), False)
        self.assertIs(self.told(self.price, self.front, [()]), False)
        self.assertIs(self.told(self.price, self.front, self.cuts + [()]), False)
        self.assertIs(self.told(self.price, self.front, []), False)

    def test_another_price(self):
        for price in (self.price - 1, self.price + 1, 0, -1, None, str(self.price), (self.price,), [], True, False):
            self.assertIs(self.told(price, self.front, self.cuts), False, price)

    def test_another_front(self):
        for front in all_fronts(CHAIN, self.web) + [(), self.front[:1], self.front + (None,), self.front + ("a",)]:
            if front != self.front:
                self.assertIs(self.told(self.price, front, self.cuts), False, front)
                cuts = [other for other in self.cuts + [self.front] if other != front]
                self.assertIs(self.told(self.price, front, cuts), front in self.best, front)
                own = front_price(CHAIN, self.web, self.goals, front[:2])
                self.assertIs(self.told(own, front, cuts), front in self.best, front)
        for front in (None, list(self.front), "ab", 0, True, ("a", "d"), ("a", ""), ("a", 0), ("a", True), ("a", ("a",)),
                      ("a", ["a"]), (A, A)):
            self.assertIs(self.told(self.price, front, self.cuts), False, front)
            self.assertIs(self.told(self.price, front, self.cuts + [self.front]), False, front)
            self.assertIs(self.told(None, front, self.cuts), False, front)

    def test_cuts_left_out_doubled_and_more(self):
        for k, cut in enumerate(self.cuts):
            rest = self.cuts[:k] + self.cuts[k + 1:]
            self.assertIs(self.told(self.price, self.front, rest), False)
            self.assertIs(self.told(self.price, self.front, self.cuts + [cut]), False)
            self.assertIs(self.told(self.price, self.front, rest + [self.cuts[k - 1]]), False)
            self.assertIs(self.told(self.price, self.front, self.cuts + [cut + (None,)]), False)
            self.assertIs(self.told(self.price, self.front, self.cuts + [cut + ("a",)]), False)
            for bent in (cut[:1], cut + (None,), cut + ("a",), list(cut), (cut,), None, cut[::-1] + ("d",), 0, "a"):
                self.assertIs(self.told(self.price, self.front, rest + [bent]), False, bent)
            for other in ("d", "", 0, False, (), [], ("a",), A):
                self.assertIs(self.told(self.price, self.front, rest + [(cut[0], other)]), False, other)
                self.assertIs(self.told(self.price, self.front, self.cuts + [(cut[0], other)]), False, other)
        self.assertIs(self.told(self.price, self.front, self.cuts + [self.front]), False)
        self.assertIs(self.told(self.price, self.front, tuple(self.cuts)), False)
        self.assertIs(self.told(self.price, self.front, dict.fromkeys(self.cuts)), False)

    def test_truths_for_numbers(self):
        cheap = table("r", ("r", ANY, 1), ("r", ("from", 0, 9), 0))
        for tree, price in ((A, 1), (num(3), 0)):
            for front, other in (((None,), ("r",)), (("r",), (None,))):
                self.assertIs(is_keeping(cheap, (tree,), [(0, "r")], (price, front, [other])), True)
                self.assertIs(is_keeping(cheap, (tree,), [(0, "r")], (bool(price), front, [other])), False)

    def test_none(self):
        web = (A, ("less", A, A))
        goals = [(0, "a"), (1, "a")]
        firsts = [(None,), ("a",), ("b",), ("c",)]
        seconds = [first + (kept,) for first in firsts for kept in (None, "a", "b", "c")]
        self.assertIs(is_keeping(CHAIN, web, goals, (None, None, seconds)), True)
        self.assertIs(is_keeping(CHAIN, web, goals, (None, None, seconds[:15])), False)
        self.assertIs(is_keeping(CHAIN, web, goals, (None, None, seconds + [seconds[0]])), False)
        self.assertIs(is_keeping(CHAIN, web, goals, (None, None, [])), False)
        # The first tree alone has a price, so this is no cut, but where a goal has none already.
        self.assertIs(is_keeping(CHAIN, web, goals, (None, None, firsts)), False)
        self.assertIs(is_keeping(CHAIN, web, goals, (None, None, [()])), False)
        self.assertIs(is_keeping(CHAIN, web, goals, (None, None, seconds[:8] + firsts[2:])), True)
        for told in ((0, None), (5, None), (None, (None, None)), (0, (None, None)), (None, ())):
            self.assertIs(is_keeping(CHAIN, web, goals, told + (seconds,)), False, told)
            self.assertIs(is_keeping(CHAIN, web, goals, told + (seconds[1:],)), False, told)
        self.assertIs(self.told(None, None, self.cuts + [self.front]), False)
        self.assertIs(self.told(None, None, self.cuts), False)

    def test_forms(self):
        right = (self.price, self.front, self.cuts)
        for thing in (list(right), right[:2], right + (None,), (self.cuts, self.front, self.price), (right,), {}):
            self.assertIs(is_keeping(CHAIN, self.web, self.goals, thing), False)
        for thing in ODD_THINGS + [deep_thing(60), deep_thing(60, list), [()] * 200000]:
            self.assertIs(is_keeping(CHAIN, self.web, self.goals, thing), False)
            self.assertIs(self.told(thing, self.front, self.cuts), False)
            self.assertIs(self.told(self.price, thing, self.cuts), False)
            self.assertIs(self.told(self.price, self.front, thing), False)
            self.assertIs(self.told(self.price, self.front, self.cuts[:-1] + [thing]), False)

    def test_nothing_is_changed(self):
        cuts = list(self.cuts)
        self.assertIs(self.told(self.price, self.front, cuts), True)
        self.assertEqual(cuts, self.cuts)
        cuts.pop()
        self.assertIs(self.told(self.price, self.front, cuts), False)

    def test_bent_at_random(self):
        chance = random.Random(73)
        found = {True: 0, False: 0}
        for step in range(400):
            some = chance.choice([random_table, bare_table])(chance, chance.randrange(6, 12))
            web = random_web(chance, chance.randrange(1, 4 if len(some[0]) < 3 else 3), 3)
            goals = random_goals(chance, some, web, 4)
            price, front, cuts = keeping(some, web, goals)
            fronts = all_fronts(some, web)
            for change in range(chance.randrange(3)):
                kind = chance.randrange(4)
                if kind == 0 and cuts:
                    cuts.pop(chance.randrange(len(cuts)))
                elif kind == 1:
                    cuts.append(chance.choice(fronts)[:chance.randrange(1, len(web) + 1)])
                elif kind == 2 and cuts:
                    cut = cuts.pop(chance.randrange(len(cuts)))
                    cuts += [other for other in fronts if other[:len(cut)] == cut]
                elif price is not None:
                    other = chance.choice(fronts)
                    if other in cuts:
                        cuts[cuts.index(other)] = front
                        price, front = chance.choice([price, plain_front(some, web, goals, other)]), other
            told = is_keeping(some, web, goals, (price, front, cuts))
            self.assertIs(told, plainly_right(some, web, goals, (price, front, cuts)))
            found[told] += 1
        self.assertGreater(min(found.values()), 80)


if __name__ == "__main__":
    unittest.main()
