import random
import unittest

from rowsmith.errors import NoName, NoRow, NoText, NotRight, RowsmithError, TooMany
from rowsmith.labels import labels
from rowsmith.trees import is_tree, pieces, within, worth
from rowsmith.webs import is_web, open_last, opened, web_labels, web_worths
from samples import (MOST, ODD_THINGS, PLAIN, bushy, comb, deep_thing, name, num, piece, plain_cost, plainly_opened,
                     random_table, random_tree, random_web, table, turned)

A = name("a")
AT = ("at", "r")
ANY = ("any",)


class TestIsWeb(unittest.TestCase):
    def test_one_tree_and_three_thousand(self):
        self.assertIs(is_web((A,)), True)
        self.assertIs(is_web((num(0), A, ("sum", A, A))), True)
        self.assertIs(is_web((A,) * 3000), True)
        self.assertIs(is_web((A,) * 3001), False)
        self.assertIs(is_web(()), False)

    def test_pieces_alone_and_within(self):
        for tree in (piece(0), ("turn", piece(0)), ("sum", piece(0), A), ("by", ("less", A, piece(0)), piece(0))):
            self.assertIs(is_web((A, tree)), True, tree)
            self.assertIs(is_web((tree,)), False, tree)
            self.assertIs(is_web((tree, A)), False, tree)
        self.assertIs(is_web((A, piece(0), piece(1), ("sum", piece(0), piece(2)))), True)
        self.assertIs(is_web((A,) + tuple(piece(number) for number in range(2999))), True)

    def test_numbers_of_pieces(self):
        for number in (2, 3, 10, -1, 10 ** 59, -(10 ** 59), True, False, None, "0", "", (0,), [0], A):
            self.assertIs(is_web((A, A, ("turn", piece(number)), A, A)), False, number)
            self.assertIs(is_web((A, A, piece(number), A, A)), False, number)
        for number in (0, 1):
            self.assertIs(is_web((A, A, ("turn", piece(number)), A, A)), True)

    def test_forms_of_pieces(self):
        for thing in (("piece",), ("piece", 0, 0), ("piece", piece(0)), ["piece", 0], ("pieces", 0), ("Piece", 0),
                      ("sum", piece(0)), ("turn", piece(0), piece(0)), (0, "piece"), (("piece",), 0)):
            self.assertIs(is_web((A, thing)), False, thing)
            self.assertIs(is_web((A, ("less", A, thing))), False, thing)

    def test_pieces_count_as_one(self):
        # 100 leaves have 199 pieces.
        wide = bushy(100)
        pieced = ("sum", ("sum", piece(0), piece(0)), ("by", piece(0), piece(0)))
        self.assertIs(is_web((wide, ("turn", wide))), True)
        self.assertIs(is_web((wide, ("turn", ("turn", wide)))), False)
        self.assertIs(is_web((wide, pieced, ("sum", piece(1), piece(1)))), True)
        self.assertEqual(pieces(("sum", ("turn", piece(0)), bushy(99))), 200)
        self.assertIs(is_web((wide, ("sum", ("turn", piece(0)), bushy(99)))), True)
        self.assertIs(is_web((wide, ("sum", ("turn", ("turn", piece(0))), bushy(99)))), False)
        self.assertIs(is_web((comb(40), turned(piece(0), 39))), True)
        self.assertIs(is_web((comb(40), turned(piece(0), 40))), False)
        self.assertIs(is_web((turned(A, 39),)), True)
        self.assertIs(is_web((turned(A, 40),)), False)

    def test_trees_are_as_ever(self):
        for tree in (num(-1), num(MOST + 1), num(True), name("A"), name(""), ("sum", A), ("turn", A, A), ("num", 1, 1),
                     ("less", A, None), ("by", [A], A), ["turn", A], ("at", "r"), ("any",), ("from", 0, 1)):
            self.assertIs(is_web((tree,)), False, tree)
            self.assertIs(is_web((A, ("turn", tree))), False, tree)
        self.assertIs(is_web((num(MOST),)), True)

    def test_other_things(self):
        for thing in [A, ("turn", A), [A], [piece(0)], "a", {}] + ODD_THINGS:
            self.assertIs(is_web(thing), False, thing)
            self.assertIs(is_web((A, thing)), thing == A or is_tree(thing), thing)
            self.assertIs(is_web((A, ("sum", thing, piece(0)))), thing == A or is_tree(thing), thing)
        for thing in (deep_thing(60), deep_thing(60, list), ((),) * 200000, [A] * 60000):
            self.assertIs(is_web(thing), False)
        self.assertIs(is_web([A, A]), False)
        self.assertIs(is_web((A, [A])), False)
        self.assertIs(is_web(((A, A),)), False)
        shared = A
        for step in range(58):
            shared = ("sum", shared, shared)
        self.assertIs(is_web((shared, shared)), False)
        self.assertIs(is_web((turned(A, 58),)), False)


class TestWorths(unittest.TestCase):
    def test_by_hand(self):
        web = (("sum", A, num(3)), ("by", piece(0), piece(0)), ("less", piece(1), name("b")), ("turn", piece(2)),
               piece(0))
        self.assertEqual(web_worths(web, {"a": 2, "b": 4, "c": 9}), [5, 25, 21, -21, 5])
        self.assertEqual(web_worths((num(7),), {}), [7])
        self.assertIsInstance(web_worths((A,), {"a": 1}), list)

    def test_like_the_trees_opened(self):
        chance = random.Random(61)
        for step in range(200):
            web = random_web(chance, chance.randrange(1, 6), 4)
            self.assertTrue(is_web(web))
            worths = {"a": chance.randrange(-9, 9), "b": -MOST, "c": MOST, "abcdefgh": chance.randrange(100)}
            plain = [worth(plainly_opened(web, number), worths) for number in range(len(web))]
            self.assertEqual(web_worths(web, worths), plain)

    def test_many_figures_and_many_trees(self):
        web = (A,) + tuple(("by", piece(number), piece(number)) for number in range(13))
        self.assertEqual(web_worths(web, {"a": 3})[-1], 3 ** 2 ** 13)
        chain = (A,) + tuple(("sum", piece(number), num(1)) for number in range(2999))
        self.assertEqual(web_worths(chain, {"a": -5}), list(range(-5, 2995)))

    def refused(self, web, worths):
        with self.assertRaises(NoName) as caught:
            web_worths(web, worths)
        self.assertIsInstance(caught.exception, RowsmithError)
        self.assertNotIsInstance(caught.exception, (TooMany, NotRight, NoText, NoRow))
        return caught.exception.name

    def test_names_without_a_worth(self):
        web = (A, ("sum", ("turn", name("c")), name("b")), ("less", name("e"), piece(1)), name("d"))
        self.assertEqual(self.refused(web, {}), "a")
        self.assertEqual(self.refused(web, {"a": 1}), "c")
        self.assertEqual(self.refused(web, {"a": 1, "b": 1}), "c")
        self.assertEqual(self.refused(web, {"a": 1, "c": 1}), "b")
        self.assertEqual(self.refused(web, {"a": 1, "b": 1, "c": 1}), "e")
        self.assertEqual(self.refused(web, {"a": 1, "b": 1, "c": 1, "e": 0}), "d")
        self.assertEqual(self.refused(web, {"a": 0, "d": 1, "e": 0}), "c")
        # Piece 0 stands ahead of b within the last tree, but its own name was due long before.
        self.assertEqual(self.refused((num(1), A, ("sum", name("b"), piece(0))), {"b": 1}), "a")
        # A worth of very many figures further ahead is nothing to wait for.
        high = tuple(("by", piece(max(number - 1, 0)), piece(max(number - 1, 0))) for number in range(1, 2990))
        self.assertEqual(self.refused((num(3),) + high + (name("z"),), {"a": 1}), "z")

    def test_nothing_is_kept(self):
        web, worths = (A, piece(0)), {"a": 1}
        first = web_worths(web, worths)
        first[0] = 9
        self.assertEqual(worths, {"a": 1})
        worths["a"] = 2
        self.assertEqual(web_worths(web, worths), [2, 2])
        self.assertEqual(first, [9, 1])


class TestOpened(unittest.TestCase):
    def test_sizes(self):
        self.assertEqual(opened((A,)), [1])
        web = (("sum", A, A), piece(0), ("turn", piece(1)), ("by", piece(0), ("less", piece(2), A)))
        self.assertEqual(opened(web), [3, 3, 4, 10])
        self.assertIsInstance(opened((A,)), list)

    def test_like_the_trees_opened(self):
        chance = random.Random(62)
        for step in range(200):
            web = random_web(chance, chance.randrange(1, 6), 4)
            plain = [plainly_opened(web, number) for number in range(len(web))]
            self.assertEqual(opened(web), [pieces(tree) for tree in plain])
            if pieces(plain[-1]) <= 200 and within(plain[-1]) <= 40:
                self.assertEqual(open_last(web), plain[-1])
            else:
                self.assertRaises(TooMany, open_last, web)

    def test_very_great_ones(self):
        web = (A,) + tuple(("sum", piece(number), piece(number)) for number in range(2999))
        self.assertEqual(opened(web)[-1], 2 ** 3000 - 1)
        self.assertEqual(opened(web)[:4], [1, 3, 7, 15])
        self.assertRaises(TooMany, open_last, web)

    def test_told_lists_are_the_askers_own(self):
        web = (A, ("turn", piece(0)))
        first = opened(web)
        first.append(7)
        self.assertEqual(opened(web), [1, 2])


class TestOpenLast(unittest.TestCase):
    def refused(self, web):
        with self.assertRaises(TooMany) as caught:
            open_last(web)
        self.assertIsInstance(caught.exception, RowsmithError)
        self.assertNotIsInstance(caught.exception, (NoName, NotRight, NoText, NoRow))

    def test_by_hand(self):
        self.assertEqual(open_last((A,)), A)
        self.assertEqual(open_last((A, piece(0))), A)
        web = (A, ("turn", piece(0)), ("sum", piece(1), ("less", num(1), piece(0))), ("by", piece(2), piece(1)))
        self.assertEqual(open_last(web), ("by", ("sum", ("turn", A), ("less", num(1), A)), ("turn", A)))
        self.assertIs(is_tree(open_last(web)), True)

    def test_only_the_last_one_is_looked_at(self):
        self.assertEqual(open_last((bushy(100), ("sum", piece(0), piece(0)), A)), A)
        self.assertEqual(open_last((turned(A, 39), turned(piece(0), 39), ("turn", num(2)))), ("turn", num(2)))

    def test_pieces(self):
        # 99 + 99 + 1 pieces, and one or two more.
        half = bushy(50)
        self.assertEqual(pieces(open_last((half, ("sum", piece(0), piece(0))))), 199)
        self.assertEqual(pieces(open_last((half, ("turn", ("sum", piece(0), piece(0)))))), 200)
        self.refused((half, ("turn", ("turn", ("sum", piece(0), piece(0))))))
        self.refused((half, ("turn", half), ("turn", ("sum", piece(0), piece(1)))))
        self.assertTrue(is_tree(open_last((bushy(100), ("turn", piece(0))))))
        self.refused((bushy(100), ("turn", piece(0)), ("turn", piece(1))))

    def test_within_one_another(self):
        self.assertEqual(open_last((turned(A, 20), turned(piece(0), 19))), turned(A, 39))
        self.refused((turned(A, 20), turned(piece(0), 20)))
        self.refused((turned(A, 20), ("sum", num(1), ("sum", turned(piece(0), 18), A))))
        self.assertEqual(within(open_last((comb(39), ("less", A, piece(0))))), 40)
        self.refused((comb(40), ("less", A, piece(0))))

    def test_a_long_chain_of_pieces(self):
        self.assertEqual(open_last((A,) + tuple(piece(number) for number in range(2999))), A)
        self.refused((A,) + tuple(("turn", piece(number)) for number in range(2999)))


class TestWebLabels(unittest.TestCase):
    def test_only_holes_lie_on_a_piece(self):
        some = table("r", ("r", ANY, 1), ("r", ("from", 0, 9), 2), ("r", ("sum", AT, AT), 3),
                     ("r", ("sum", ANY, ("from", 0, 9)), 1), ("r", ("turn", ("turn", AT)), 0))
        self.assertEqual(web_labels(some, (("sum", A, num(3)),)), [(1,)])
        self.assertEqual(web_labels(some, (A, ("sum", piece(0), num(3)))), [(1,), (6,)])
        self.assertEqual(web_labels(some, (num(3), ("sum", A, piece(0)))), [(2,), (6,)])
        self.assertEqual(web_labels(some, (("turn", A), ("turn", piece(0)))), [(None,), (None,)])
        self.assertEqual(web_labels(some, (A, ("turn", ("turn", piece(0))))), [(1,), (1,)])
        self.assertEqual(web_labels(some, (("turn", A), piece(0), ("sum", piece(1), A))), [(None,)] * 3)

    def test_passes_behind_pieces(self):
        some = table("abc", ("a", ANY, 1), ("b", ("at", "a"), 2), ("c", ("at", "b"), 4),
                     ("c", ("sum", ("at", "b"), ("at", "c")), 8))
        self.assertEqual(web_labels(some, (A, piece(0), ("sum", piece(1), piece(0)))),
                         [(1, 3, 7), (1, 3, 7), (None, None, 18)])

    def test_webs_without_pieces(self):
        chance = random.Random(63)
        for step in range(300):
            some = random_table(chance, chance.randrange(6, 12))
            web = tuple(random_tree(chance, 4) for number in range(chance.randrange(1, 4)))
            self.assertEqual(web_labels(some, web), [labels(some, tree)[0][1] for tree in web])

    def test_random_webs(self):
        chance = random.Random(64)
        crossing = 0
        for step in range(200):
            some, web = random_table(chance, chance.randrange(6, 41)), random_web(chance, chance.randrange(2, 5), 4)
            told = web_labels(some, web)
            plain = []
            for tree in web:
                plain.append(tuple(plain_cost(some, tree, cls, plain) for cls in some[0]))
            self.assertEqual(told, plain)
            crossing += told != web_labels(some, tuple(plainly_opened(web, k) for k in range(len(web))))
        self.assertGreater(crossing, 5)

    def test_many_trees(self):
        web = (A,) + tuple(("sum", piece(number), piece(number)) for number in range(2999))
        told = web_labels(PLAIN, web)
        self.assertEqual(len(told), 3000)
        self.assertEqual(told[-1], (5 * 2 ** 2999 - 3, 5 * 2 ** 2999 + 7))

    def test_told_lists_are_the_askers_own(self):
        web = (A, ("turn", piece(0)))
        first = web_labels(PLAIN, web)
        kept = list(first)
        first.clear()
        self.assertEqual(web_labels(PLAIN, web), kept)


if __name__ == "__main__":
    unittest.main()
