import random
import unittest

from rowsmith.errors import TooMany
from rowsmith.straight import apart, straight, straight_worth
from rowsmith.trees import is_tree, names_in, worth
from rowsmith.treetexts import read
from samples import MOST, bushy, check_refused, name, num, random_tree, turned

A, B = name("a"), name("b")
LETTERS = "abcdefghijklmnopqrstuvwxyz"


def some_names(count, first="n"):
    """As many names, in rising order."""
    return [first + LETTERS[k // 26] + LETTERS[k % 26] for k in range(count)]


def joined(word, trees):
    """The trees joined two by two, as flat as may be."""
    row = list(trees)
    while len(row) > 1:
        pairs = [(word, row[k], row[k + 1]) for k in range(0, len(row) - 1, 2)]
        row = pairs + row[len(row) - len(row) % 2:]
    return row[0]


def sum_of(count, first="n"):
    """The sum of as many names."""
    return joined("sum", [name(one) for one in some_names(count, first)])


def plain_sum(tree):
    """The straight sum of a tree, by the words of the document; slow."""
    if tree[0] == "num":
        terms = [((), tree[1])]
    elif tree[0] == "name":
        terms = [((tree[1],), 1)]
    elif tree[0] == "turn":
        terms = [(names, -number) for names, number in plain_sum(tree[1])]
    elif tree[0] == "by":
        terms = [(tuple(sorted(mine + yours)), one * other) for mine, one in plain_sum(tree[1])
                 for yours, other in plain_sum(tree[2])]
    else:
        terms = plain_sum(tree[1]) + [(names, -number if tree[0] == "less" else number)
                                      for names, number in plain_sum(tree[2])]
    all_names = {names for names, number in terms}
    totals = {names: sum(number for had, number in terms if had == names) for names in all_names}
    return sorted([(names, number) for names, number in totals.items() if number], key=lambda term: (len(term[0]), term[0]))


def greatest_count(tree):
    """The greatest count of parts' straight sums at a piece."""
    parts = [part for part in tree[1:]] if tree[0] in ("turn", "sum", "less", "by") else []
    if not parts:
        return 0
    counts = [len(plain_sum(part)) for part in parts]
    own = counts[0] * counts[1] if tree[0] == "by" else sum(counts)
    return max([own] + [greatest_count(part) for part in parts])


class Checked(unittest.TestCase):
    def refused(self, ask, *asked, **named):
        check_refused(self, TooMany, ask, *asked, **named)

    def check_form(self, told):
        self.assertIsInstance(told, list)
        for names, number in told:
            self.assertEqual((type(names), type(number)), (tuple, int))
            self.assertNotEqual(number, 0)
            self.assertEqual(list(names), sorted(names))
        keys = [(len(names), names) for names, number in told]
        self.assertEqual(keys, sorted(set(keys)))


class TestStraight(Checked):
    def test_by_hand(self):
        for text, sums in (
                ("0", []), ("7", [((), 7)]), (str(MOST), [((), MOST)]), ("a", [(("a",), 1)]), ("(- a)", [(("a",), -1)]),
                ("(- 0)", []), ("(- 3)", [((), -3)]), ("(- (- a))", [(("a",), 1)]), ("(a - a)", []), ("(a + a)", [(("a",), 2)]),
                ("(a * a)", [(("a", "a"), 1)]), ("(b * a)", [(("a", "b"), 1)]), ("(0 * a)", []), ("(a * 0)", []),
                ("(2 - 5)", [((), -3)]), ("((a + b) * (a - b))", [(("a", "a"), 1), (("b", "b"), -1)]),
                ("((a + 1) * (a + 1))", [((), 1), (("a",), 2), (("a", "a"), 1)]),
                ("((a - b) - (a - b))", []), ("(a - (b - a))", [(("a",), 2), (("b",), -1)]),
                ("((3 * b) + ((a * c) + ((b * b) + (aa - 4))))",
                 [((), -4), (("aa",), 1), (("b",), 3), (("a", "c"), 1), (("b", "b"), 1)]),
                ("((b * (a * b)) + (- (a * a)))", [(("a", "a"), -1), (("a", "b", "b"), 1)])):
            self.assertEqual(straight(read(text)), sums, text)

    def test_order(self):
        # By how many names first, then by the names as texts: aa is ahead of b, z ahead of aa with anything.
        tree = read("((((z + aa) + (b * aa)) + ((aa * z) + (a * zz))) + 5)")
        self.assertEqual([names for names, number in straight(tree)],
                         [(), ("aa",), ("z",), ("a", "zz"), ("aa", "b"), ("aa", "z")])

    def test_the_same_name_many_times(self):
        product = joined("by", [A] * 100)
        self.assertTrue(is_tree(product))
        self.assertEqual(straight(product), [(("a",) * 100, 1)])
        self.assertEqual(straight(joined("by", [B, A] * 50)), [(("a",) * 50 + ("b",) * 50, 1)])
        self.assertEqual(straight(joined("sum", [A] * 100)), [(("a",), 100)])

    def test_numbers_of_many_figures(self):
        self.assertEqual(straight(joined("by", [num(MOST)] * 100)), [((), MOST ** 100)])
        self.assertEqual(straight(("turn", joined("by", [num(MOST)] * 99))), [((), -MOST ** 99)])
        self.assertEqual(straight(joined("by", [("less", A, num(MOST))] * 2)),
                         [((), MOST ** 2), (("a",), -2 * MOST), (("a", "a"), 1)])

    def test_at_random(self):
        chance = random.Random(131)
        counts = []
        for step in range(150):
            tree = random_tree(chance, chance.randrange(1, 6))
            most = greatest_count(tree)
            if most > 1000:
                continue
            told = straight(tree, 1000)
            self.check_form(told)
            self.assertEqual(told, plain_sum(tree))
            for draw in range(3):
                worths = {one: chance.choice([0, 1, -1, 3, -MOST, MOST, chance.randrange(-99, 99)]) for one in names_in(tree)}
                self.assertEqual(straight_worth(told, worths), worth(tree, worths))
            if most >= 1:
                self.assertEqual(straight(tree, most), told)
            if most > 1:
                self.refused(straight, tree, most - 1)
                self.refused(straight, tree, 1)
            counts.append(len(told))
        self.assertGreater(max(counts), 5)

    def test_limits_by_sign(self):
        two, three = read("(a + b)"), read("(c + (d + e))")
        for word in ("sum", "less"):
            self.assertEqual(len(straight((word, two, three), 5)), 5)
            self.refused(straight, (word, two, three), 4)
            # Counted is what goes in, not what comes.
            self.assertEqual(straight((word, two, two), 4), plain_sum((word, two, two)))
            self.refused(straight, (word, two, two), 3)
        self.assertEqual(len(straight(("by", two, three), 6)), 6)
        self.refused(straight, ("by", two, three), 5)
        self.assertEqual(len(straight(("by", two, read("(a - b)")), 4)), 2)
        self.refused(straight, ("by", two, read("(a - b)")), 3)
        self.assertEqual(len(straight(("turn", three), 3)), 3)
        self.refused(straight, ("turn", three), 2)
        self.assertEqual(straight(read("((a * b) * (3 * c))"), 1), [(("a", "b", "c"), 3)])
        self.assertEqual(straight(turned(A, 7), 1), [(("a",), -1)])
        for text in ("a", "0", "5", "(- a)", "(0 + a)", "(a - 0)", "(0 * a)", "(a * a)", "(0 + 0)"):
            self.assertEqual(straight(read(text), 1), plain_sum(read(text)))
        for text in ("(a + a)", "(a - a)", "(1 + 1)", "(a + 1)"):
            self.refused(straight, read(text), 1)
            self.assertEqual(straight(read(text), 2), plain_sum(read(text)))

    def test_limits_at_an_inner_piece(self):
        inner = read("((a + b) - (c + d))")
        for tree in (("by", num(0), inner), ("by", inner, num(0)), ("less", inner, inner), ("turn", ("turn", inner)),
                     ("sum", num(1), ("by", ("turn", inner), num(2)))):
            self.refused(straight, tree, 3)
        self.assertEqual(straight(("by", num(0), inner), 4), [])
        self.assertEqual(len(straight(("by", num(5), inner), 4)), 4)
        # Nothing by very many is nothing.
        self.assertEqual(straight(("by", ("less", A, A), sum_of(90)), 90), [])
        self.refused(straight, ("by", ("less", A, A), sum_of(90)), 89)

    def test_left_out_it_is_two_hundred(self):
        just, more = ("by", sum_of(10), sum_of(20, "m")), ("by", sum_of(3), sum_of(67, "m"))
        self.assertEqual(len(straight(just)), 200)
        self.refused(straight, more)
        self.refused(straight, more, 200)
        self.refused(straight, just, 199)
        self.assertEqual(len(straight(more, 201)), 201)
        self.assertEqual(len(straight(("by", sum_of(25), sum_of(40, "m")), limit=1000)), 1000)
        self.refused(straight, ("by", sum_of(25), sum_of(40, "m")), 999)

    def test_worths(self):
        self.assertEqual(straight_worth([], {}), 0)
        self.assertEqual(straight_worth([((), -5)], {"a": 3}), -5)
        self.assertEqual(straight_worth([((), 2), (("a",), -3), (("a", "a", "b"), 4)], {"a": -2, "b": 10, "z": 1}), 168)
        self.assertEqual(straight_worth([(("a",) * 100, 10 ** 100)], {"a": -MOST}), 10 ** 100 * MOST ** 100)
        self.assertEqual(straight_worth([(("a",), 7)], {"a": 0}), 0)

    def test_told_lists_are_the_askers_own(self):
        tree = read("((a + b) * 2)")
        first, second = straight(tree), straight(tree)
        first.clear()
        self.assertEqual(second, [(("a",), 2), (("b",), 2)])
        straight_worth(second, {"a": 1, "b": 1})
        self.assertEqual(second, [(("a",), 2), (("b",), 2)])


class TestApart(Checked):
    def check(self, one, other, told):
        if told is None:
            self.assertEqual(straight(one, 1000), straight(other, 1000))
            return
        self.assertIsInstance(told, dict)
        self.assertEqual(set(told), set(names_in(one)) | set(names_in(other)))
        for number in told.values():
            self.assertIs(type(number), int)
            self.assertTrue(0 <= number <= 200)
        self.assertNotEqual(worth(one, told), worth(other, told))

    def test_by_hand(self):
        for one, other, same in (("a", "a", True), ("a", "b", False), ("(a + b)", "(b + a)", True), ("0", "0", True),
                                 ("0", "1", False), ("(a - a)", "0", True), ("(a - a)", "(b - b)", True), ("5", "(2 + 3)", True),
                                 ("((a + b) * c)", "((a * c) + (c * b))", True), ("(a * a)", "a", False), ("(- a)", "a", False),
                                 ("(a - b)", "(b - a)", False), ("(a * b)", "(a * c)", False), ("(0 * a)", "(b - b)", True),
                                 ("((a + b) * (a - b))", "((a * a) - (b * b))", True), ("(a * 0)", "(b * 1)", False)):
            told = apart(read(one), read(other))
            self.check(read(one), read(other), told)
            self.assertEqual(told is None, same, (one, other))
            self.assertEqual(apart(read(other), read(one)) is None, same)

    def test_names_that_fall_out_are_told_too(self):
        one, other = read("((a - a) + (b * 0))"), read("(1 + (c - c))")
        self.assertEqual(sorted(apart(one, other)), ["a", "b", "c"])
        self.check(one, other, apart(one, other))
        self.assertEqual(apart(num(3), num(4)), {})

    def test_products_of_many_differences(self):
        # It is nothing for a from 0 to 37.
        comb = A
        for number in range(1, 38):
            comb = ("by", comb, ("less", A, num(number)))
        self.assertTrue(is_tree(comb))
        told = apart(comb, num(0))
        self.check(comb, num(0), told)
        self.assertGreater(told["a"], 37)
        flat = joined("by", [("less", A, num(number)) for number in range(50)])
        self.assertTrue(is_tree(flat))
        self.refused(apart, flat, num(0))
        told = apart(flat, num(0), 1000)
        self.check(flat, num(0), told)
        self.assertGreater(told["a"], 49)
        self.check(num(0), flat, apart(num(0), flat, limit=1000))
        # Two products that are alike wherever one of them is nothing.
        rest = ("by", comb, B)
        self.check(comb, rest, apart(comb, rest))
        self.assertEqual(sorted(apart(comb, rest)), ["a", "b"])

    def test_products_of_differences_of_several_names(self):
        names = [name(one) for one in "abcdefgh"]
        trees = [("less", names[k], names[j]) for k in range(5) for j in range(k)]
        product = joined("by", trees[:8])
        told = apart(product, num(0), 1000)
        self.check(product, num(0), told)
        self.assertIsNone(apart(product, joined("by", trees[:8][::-1]), 1000))

    def test_many_names(self):
        one, other = joined("by", [name(title) for title in some_names(100)]), num(0)
        told = apart(one, other)
        self.check(one, other, told)
        self.assertEqual(len(told), 100)
        self.check(sum_of(100), bushy(100), apart(sum_of(100), bushy(100)))

    def test_at_random(self):
        chance = random.Random(132)
        found = {True: 0, False: 0}
        for step in range(200):
            one, other = random_tree(chance, chance.randrange(1, 5)), random_tree(chance, chance.randrange(1, 4))
            if chance.randrange(3) == 0:
                other = ("less", ("sum", one, other), other) if chance.randrange(2) else ("turn", ("turn", one))
            if max(greatest_count(one), greatest_count(other)) > 1000:
                continue
            told = apart(one, other, 1000)
            self.check(one, other, told)
            self.assertEqual(told is None, plain_sum(one) == plain_sum(other))
            found[told is None] += 1
        self.assertGreater(min(found.values()), 30)

    def test_limits(self):
        two, one = read("(a + b)"), A
        self.refused(apart, two, one, 1)
        self.refused(apart, one, two, 1)
        self.refused(apart, two, two, 1)
        self.assertIsNone(apart(two, two, 2))
        self.assertEqual(sorted(apart(one, two, 2)), ["a", "b"])
        just, more = ("by", sum_of(10), sum_of(20, "m")), ("by", sum_of(3), sum_of(67, "m"))
        # Both together may have more than the limit.
        self.assertIsNone(apart(just, just))
        self.check(just, sum_of(100), apart(just, sum_of(100)))
        self.refused(apart, more, A)
        self.refused(apart, A, more)
        self.check(A, more, apart(A, more, 201))

    def test_told_dicts_are_the_askers_own(self):
        first, second = apart(A, B), apart(A, B)
        first.clear()
        self.check(A, B, second)


if __name__ == "__main__":
    unittest.main()
