import random
import unittest

from rowsmith.errors import NoExchange
from rowsmith.exchanges import exchanged, exchanges
from rowsmith.straight import straight
from rowsmith.trees import is_tree, names_in, pieces, places, tree_at, within, worth
from rowsmith.treetexts import read, shown
from samples import ODD_THINGS, bushy, check_refused, comb, deep_thing, name, num, plain_changed, random_tree, turned

A, B = name("a"), name("b")
WORDS = ("swap", "right", "left", "open", "shut", "off")


class TestExchanges(unittest.TestCase):
    def refused(self, tree, thing):
        check_refused(self, NoExchange, exchanged, tree, thing)

    def check(self, tree):
        """That all exchanges are told in their order, and each makes what it has to make."""
        wanted = []
        for place in places(tree):
            for word in WORDS:
                come = plain_changed(tree, word, place)
                if come is not None and is_tree(come):
                    wanted.append((word, place))
                    self.assertEqual(exchanged(tree, (word, place)), come)
                else:
                    self.refused(tree, (word, place))
        told = exchanges(tree)
        self.assertIsInstance(told, list)
        self.assertEqual(told, wanted)
        return told

    def test_each_word(self):
        for text, word, come in (
                ("(a + b)", "swap", "(b + a)"), ("(a * (b + c))", "swap", "((b + c) * a)"), ("(a + a)", "swap", "(a + a)"),
                ("((a + b) + c)", "right", "(a + (b + c))"), ("((a * b) * c)", "right", "(a * (b * c))"),
                ("((a + b) + (c + d))", "right", "(a + (b + (c + d)))"),
                ("(a + (b + c))", "left", "((a + b) + c)"), ("(a * (b * c))", "left", "((a * b) * c)"),
                ("((a + b) + (c + d))", "left", "(((a + b) + c) + d)"),
                ("(a - b)", "open", "(a + (- b))"), ("((a - b) - (c - d))", "open", "((a - b) + (- (c - d)))"),
                ("(a - (- b))", "open", "(a + (- (- b)))"), ("(a + (- b))", "shut", "(a - b)"),
                ("((- a) + (- b))", "shut", "((- a) - b)"), ("(a + (- (- b)))", "shut", "(a - (- b))"),
                ("(- (- a))", "off", "a"), ("(- (- (- a)))", "off", "(- a)"), ("(- (- (a - b)))", "off", "(a - b)")):
            self.assertEqual(shown(exchanged(read(text), (word, ()))), come)
            self.assertIn((word, ()), exchanges(read(text)))
            self.check(read(text))

    def test_what_can_not_be_done(self):
        for text, words in (("a", WORDS), ("7", WORDS), ("(- a)", WORDS), ("(a - b)", ("swap", "right", "left", "shut", "off")),
                            ("(a + b)", WORDS[1:]), ("(a * b)", WORDS[1:]), ("((a * b) + c)", WORDS[1:]),
                            ("((a + b) * c)", WORDS[1:]), ("(a + (b * c))", WORDS[1:]), ("((- a) + b)", WORDS[1:]),
                            ("(a * (- b))", WORDS[1:]), ("((a - b) + c)", WORDS[1:]), ("(a - (b - c))", ("left", "right", "swap")),
                            ("(- (a - b))", WORDS), ("(- (a + b))", WORDS), ("(a - (- b))", ("shut", "off"))):
            for word in words:
                self.refused(read(text), (word, ()))
                self.assertNotIn((word, ()), exchanges(read(text)))

    def test_several_at_one_place_in_their_order(self):
        self.assertEqual(exchanges(read("((a + b) + (c + d))")), [("swap", ()), ("right", ()), ("left", ()), ("swap", (0,)),
                                                                 ("swap", (1,))])
        self.assertEqual(exchanges(read("((a + b) + (- c))")), [("swap", ()), ("right", ()), ("shut", ()), ("swap", (0,))])
        self.assertEqual(exchanges(read("(- (- ((a - b) * (- (- c)))))")), [("off", ()), ("swap", (0, 0)), ("open", (0, 0, 0)),
                                                                           ("off", (0, 0, 1))])
        for tree in (A, num(3), ("turn", A), turned(A, 1)):
            self.assertEqual(exchanges(tree), [])

    def test_inner_places(self):
        tree = read("(((a + b) - (c * d)) * (- (- (e + (- f)))))")
        self.assertEqual(self.check(tree), [
            ("swap", ()), ("open", (0,)), ("swap", (0, 0)), ("swap", (0, 1)), ("off", (1,)), ("swap", (1, 0, 0)),
            ("shut", (1, 0, 0))])
        for exchange, come in ((("swap", (0, 1)), "(((a + b) - (d * c)) * (- (- (e + (- f)))))"),
                               (("open", (0,)), "(((a + b) + (- (c * d))) * (- (- (e + (- f)))))"),
                               (("off", (1,)), "(((a + b) - (c * d)) * (e + (- f)))"),
                               (("shut", (1, 0, 0)), "(((a + b) - (c * d)) * (- (- (e - f))))")):
            self.assertEqual(shown(exchanged(tree, exchange)), come)
        self.assertEqual(shown(exchanged(read("(- ((a + b) + c))"), ("right", (0,)))), "(- (a + (b + c)))")
        self.assertEqual(shown(exchanged(read("(a - (b * (c * d)))"), ("left", (1,)))), "(a - ((b * c) * d))")

    def test_at_random(self):
        chance = random.Random(141)
        found = set()
        for step in range(120):
            tree = random_tree(chance, chance.randrange(1, 7))
            if pieces(tree) > 60:
                continue
            for exchange in self.check(tree):
                found.add(exchange[0])
                come = exchanged(tree, exchange)
                worths = {one: chance.randrange(-50, 50) for one in names_in(tree)}
                self.assertEqual(worth(come, worths), worth(tree, worths))
                self.assertEqual(sorted(names_in(come)), sorted(names_in(tree)))
        self.assertEqual(found, set(WORDS))

    def test_the_worth_stays(self):
        for text in ("((a + b) + c)", "(a * (b * c))", "(a - b)", "(a + (- b))", "(- (- a))", "((a - 7) * (b - (c + 2)))"):
            tree = read(text)
            for exchange in exchanges(tree):
                self.assertEqual(straight(exchanged(tree, exchange)), straight(tree))

    def test_the_way_back(self):
        back = {"swap": "swap", "right": "left", "left": "right", "open": "shut", "shut": "open"}
        chance = random.Random(142)
        for step in range(60):
            tree = random_tree(chance, 5)
            for word, place in exchanges(tree):
                if word in back:
                    come = exchanged(tree, (word, place))
                    self.assertIn((back[word], place), exchanges(come))
                    self.assertEqual(exchanged(come, (back[word], place)), tree)

    def test_as_many_pieces_as_may_be(self):
        # 99 leaves have 197 pieces.
        for count, can in ((197, True), (199, True), (200, False)):
            tree = ("less", turned(bushy(98), count - 197), A)
            self.assertEqual(pieces(tree), count)
            self.assertTrue(is_tree(tree))
            self.assertEqual(("open", ()) in exchanges(tree), can)
            if can:
                self.assertEqual(pieces(exchanged(tree, ("open", ()))), count + 1)
            else:
                self.refused(tree, ("open", ()))
            # What doesn't add a piece can be done all the same.
            self.assertEqual([word for word, place in exchanges(tree) if place == (0,)][:1],
                             ["swap"] if count == 197 else ["off"])
        full = ("sum", turned(bushy(98), 2), ("turn", A))
        self.assertEqual(pieces(full), 200)
        self.assertEqual(pieces(exchanged(full, ("shut", ()))), 199)
        self.assertEqual(pieces(exchanged(full, ("swap", ()))), 200)

    def test_as_many_within_one_another_as_may_be(self):
        for depth, can in ((38, True), (39, False)):
            # The last part stands this deep, open puts it one deeper.
            tree = ("less", A, turned(A, depth - 1))
            self.assertEqual(within(tree), depth + 1)
            self.assertEqual(("open", ()) in exchanges(tree), can)
            self.assertEqual(is_tree(("sum", A, ("turn", tree[2]))), can)
            if not can:
                self.refused(tree, ("open", ()))
            deep = turned(("less", A, A), depth - 1)
            self.assertEqual(within(deep), depth + 1)
            self.assertEqual(("open", (0,) * (depth - 1)) in exchanges(deep), can)
            # Right puts part 1 one deeper, left part 0.
            tree = ("sum", ("sum", A, B), turned(A, depth - 1))
            self.assertEqual(("right", ()) in exchanges(tree), can)
            around = ("by", turned(A, depth - 1), ("by", A, B))
            self.assertEqual(("left", ()) in exchanges(around), can)
            if not can:
                self.refused(tree, ("right", ()))
                self.refused(around, ("left", ()))
            self.assertIn(("swap", ()), exchanges(tree))
            # What comes out is as deep as may be, or less deep.
            self.assertIn(("left", ()), exchanges(("sum", A, ("sum", B, turned(A, depth - 2)))))
            self.assertIn(("right", ()), exchanges(("by", ("by", turned(A, depth - 2), B), A)))
        self.assertEqual(within(comb(40)), 40)
        self.check(comb(40))
        self.check(comb(39, "by"))
        self.assertIn(("off", ()), exchanges(turned(A, 39)))

    def test_many_pieces(self):
        tree = bushy(100)
        told = exchanges(tree)
        self.assertEqual(len([one for one in told if one[0] == "swap"]), 99)
        self.assertEqual(told, sorted(told, key=lambda one: (places(tree).index(one[1]), WORDS.index(one[0]))))

    def test_places_that_there_are_not(self):
        tree = read("((a + b) + (- (- c)))")
        for place in ((2,), (-1,), (0, 2), (0, 0, 0), (1, 1), (1, 0, 0, 0), (True,), (False,), (0, True), (None,), ("0",),
                      [0], [], None, 0, "", "0", ((0,),), (10 ** 59,), (0,) * 60, {}):
            for word in WORDS:
                self.refused(tree, (word, place))
        self.refused(tree, ("off", (True,)))
        self.assertEqual(exchanged(tree, ("off", (1,))), tree[:2] + (name("c"),))

    def test_other_things(self):
        tree = read("((a + b) + (- (- c)))")
        for thing in ODD_THINGS + [deep_thing(60), deep_thing(60, list), [()] * 200000, ("swap",), ("swap", (), ()),
                                   ["swap", ()], ("swap", []), ((), "swap"), (("swap",), ()), (["swap"], ()), ("Swap", ()),
                                   ("swap ", ()), ("", ()), (None, ()), (0, ()), (True, ()), "swap", ("sum", ()), ("turn", (0,))]:
            self.refused(tree, thing)
        # Where each of the six can be done.
        for word in ("", "of", "Off", "off ", "turn", "sum", None, 0, True, (), [], ("off",), ["off"]):
            self.refused(tree, (word, (1,)))
            self.refused(tree, (word, ()))
            self.refused(read("(a - b)"), (word, ()))
        self.assertEqual(exchanged(tree, ("swap", ())), ("sum", tree[2], tree[1]))

    def test_told_lists_are_the_askers_own(self):
        tree = read("((a + b) + c)")
        first, second = exchanges(tree), exchanges(tree)
        first.clear()
        self.assertEqual(second, exchanges(tree))
        self.assertEqual(tree_at(tree, ()), read("((a + b) + c)"))


if __name__ == "__main__":
    unittest.main()
