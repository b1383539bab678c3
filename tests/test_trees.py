import copy
import random
import unittest

from rowsmith.errors import NoName, NoText, RowsmithError
from rowsmith.trees import is_name, is_tree, names_in, parts, pieces, places, tree_at, within, worth
from samples import MOST, ODD_THINGS, bushy, comb, deep_thing, name, num, random_tree, turned

SIX_KINDS = [
    num(5),
    name("a"),
    ("turn", name("a")),
    ("sum", name("a"), num(1)),
    ("less", name("a"), num(1)),
    ("by", name("a"), num(1)),
]


class TestNames(unittest.TestCase):
    def test_lengths(self):
        for length in range(12):
            self.assertIs(is_name("a" * length), 1 <= length <= 8)

    def test_every_small_letter(self):
        for sign in "abcdefghijklmnopqrstuvwxyz":
            self.assertIs(is_name(sign), True)
            self.assertIs(is_name("a" + sign), True)

    def test_other_signs(self):
        others = [chr(k) for k in range(32, 127) if not "a" <= chr(k) <= "z"] + ["\n", "\xe4", "\u0430", "\xaa"]
        for sign in others:
            for text in (sign, "a" + sign, sign + "a", "abc" + sign + "abc"):
                self.assertIs(is_name(text), False, text)

    def test_no_texts(self):
        for thing in (None, True, 0, 7, ("a",), ["a"], (), [], ("a", "b")):
            self.assertIs(is_name(thing), False)

    def test_long_text(self):
        self.assertIs(is_name("a" * 100000), False)


class TestIsTree(unittest.TestCase):
    def test_six_kinds(self):
        for tree in SIX_KINDS:
            self.assertIs(is_tree(tree), True)

    def test_numbers(self):
        for number in (0, 1, MOST - 1, MOST):
            self.assertIs(is_tree(num(number)), True)
        for number in (-1, MOST + 1, 10 ** 59, -(10 ** 59), True, False, None, "1", (1,), [1], ()):
            self.assertIs(is_tree(num(number)), False, number)

    def test_names(self):
        for text in ("a", "abcdefgh", "num", "turn"):
            self.assertIs(is_tree(name(text)), True)
        for text in ("", "abcdefghi", "A", "a1", "a b", 1, None, True, ("a",), ["a"]):
            self.assertIs(is_tree(name(text)), False, text)

    def wrong_forms(self):
        a, b = name("a"), name("b")
        for word in ("turn", "sum", "less", "by"):
            count = 1 if word == "turn" else 2
            for others in range(5):
                if others != count:
                    yield (word,) + (a,) * others
            yield [word] + [a] * count
            yield (word, "a", "b")[:1 + count]
            yield (word, None, None)[:1 + count]
            yield (word, ["name", "a"], ["name", "b"])[:1 + count]
            yield (word.upper(),) + (a,) * count
        yield from [("num",), ("num", 1, 1), ("name",), ("name", "a", "a"), ["num", 1], ["name", "a"]]
        yield from [("plus", a, b), ("piece", 0), ("at", "a"), ("any",), ("from", 0, 1), ("", a), (None, a), (1, a)]
        yield from [(True, a), (("sum",), a, b), (["sum"], a, b), ([], a), ((), a), (a,), (a, b), ("num", a)]
        yield from [("name", a), ("sum", a, 1), ("sum", 1, a), ("turn", "a"), ("by", a, None), ("less", True, a)]
        yield from ODD_THINGS

    def test_wrong_forms_at_the_whole(self):
        for thing in self.wrong_forms():
            self.assertIs(is_tree(thing), False, thing)

    def test_wrong_forms_deep_within(self):
        a = name("a")
        for thing in self.wrong_forms():
            for deep in (("turn", thing), ("sum", a, thing), ("by", thing, a), turned(("less", a, thing), 30)):
                self.assertIs(is_tree(deep), False, deep)

    def test_two_hundred_pieces(self):
        self.assertIs(is_tree(bushy(100)), True)
        self.assertEqual(pieces(bushy(100)), 199)
        self.assertIs(is_tree(("turn", bushy(100))), True)
        self.assertIs(is_tree(bushy(101)), False)
        self.assertIs(is_tree(turned(bushy(100), 2)), False)

    def test_forty_within(self):
        self.assertIs(is_tree(turned(num(1), 39)), True)
        self.assertIs(is_tree(turned(num(1), 40)), False)
        self.assertIs(is_tree(comb(40)), True)
        self.assertIs(is_tree(comb(41)), False)
        self.assertIs(is_tree(("sum", num(1), turned(num(1), 38))), True)
        self.assertIs(is_tree(("sum", num(1), turned(num(1), 39))), False)
        self.assertIs(is_tree(("sum", turned(num(1), 39), num(1))), False)

    def test_large_things(self):
        self.assertIs(is_tree(deep_thing(60)), False)
        self.assertIs(is_tree(deep_thing(60, list)), False)
        self.assertIs(is_tree(turned(num(1), 58)), False)
        self.assertIs(is_tree(bushy(60000)), False)
        self.assertIs(is_tree([num(1)] * 60000), False)
        self.assertIs(is_tree((num(1),) * 60000), False)
        self.assertIs(is_tree(("name", "a" * 100000)), False)

    def test_one_tuple_in_many_places(self):
        thing = num(1)
        for step in range(59):
            thing = ("sum", thing, thing)
        self.assertIs(is_tree(thing), False)
        few = num(1)
        for step in range(6):
            few = ("sum", few, few)
        self.assertIs(is_tree(few), True)


class TestPlaces(unittest.TestCase):
    tree = ("sum", ("turn", ("by", name("b"), num(2))), ("less", name("a"), name("b")))
    order = [(), (0,), (0, 0), (0, 0, 0), (0, 0, 1), (1,), (1, 0), (1, 1)]

    def test_parts(self):
        self.assertEqual(parts(num(1)), ())
        self.assertEqual(parts(name("a")), ())
        self.assertEqual(parts(("turn", num(1))), (num(1),))
        for word in ("sum", "less", "by"):
            self.assertEqual(parts((word, num(1), name("a"))), (num(1), name("a")))

    def test_order(self):
        self.assertEqual(places(self.tree), self.order)
        self.assertEqual(places(num(1)), [()])
        self.assertIsInstance(places(self.tree), list)

    def test_tree_at(self):
        told = [tree_at(self.tree, place) for place in self.order]
        self.assertEqual(told, [
            self.tree, self.tree[1], self.tree[1][1], name("b"), num(2), self.tree[2], name("a"), name("b"),
        ])

    def test_sizes(self):
        self.assertEqual((pieces(self.tree), within(self.tree)), (8, 4))
        self.assertEqual((pieces(num(1)), within(num(1))), (1, 1))
        self.assertEqual((pieces(bushy(100)), within(comb(40))), (199, 40))
        self.assertEqual((within(("sum", num(1), turned(num(1), 4))), within(turned(num(1), 39))), (6, 40))

    def test_names_once_as_they_first_stand(self):
        self.assertEqual(names_in(self.tree), ["b", "a"])
        self.assertEqual(names_in(num(1)), [])
        self.assertEqual(names_in(("sum", ("sum", name("c"), name("a")), ("by", name("b"), name("c")))),
                         ["c", "a", "b"])

    def test_random_trees_by_their_definition(self):
        chance = random.Random(1)
        for step in range(200):
            tree = random_tree(chance, 6)
            told = places(tree)
            self.assertEqual(told, sorted(told))
            self.assertEqual(len(told), pieces(tree))
            self.assertEqual(max(len(place) for place in told) + 1, within(tree))
            for place in told:
                below = [place + (k,) for k in range(len(parts(tree_at(tree, place))))]
                self.assertEqual(below, [other for other in told if other[:-1] == place and other != ()])

    def test_told_lists_are_the_askers_own(self):
        for tell in (places, names_in):
            first = tell(self.tree)
            kept = copy.copy(first)
            first.append("changed")
            first[0] = "changed"
            self.assertEqual(tell(self.tree), kept)
            self.assertIsNot(tell(self.tree), tell(self.tree))


class TestWorth(unittest.TestCase):
    def test_each_kind(self):
        worths = {"a": 7, "b": -3}
        self.assertEqual(worth(num(5), worths), 5)
        self.assertEqual(worth(name("b"), worths), -3)
        self.assertEqual(worth(("turn", name("a")), worths), -7)
        self.assertEqual(worth(("turn", name("b")), worths), 3)
        self.assertEqual(worth(("turn", num(0)), worths), 0)
        self.assertEqual(worth(("sum", name("a"), name("b")), worths), 4)
        self.assertEqual(worth(("less", name("a"), name("b")), worths), 10)
        self.assertEqual(worth(("less", name("b"), name("a")), worths), -10)
        self.assertEqual(worth(("by", name("a"), name("b")), worths), -21)

    def test_within_one_another(self):
        tree = ("less", ("by", name("a"), ("sum", name("a"), num(2))), ("turn", name("b")))
        self.assertEqual(worth(tree, {"a": 5, "b": 100}), 135)

    def test_many_figures(self):
        worths = {sign: -MOST for sign in "abcdefgh"}
        self.assertEqual(worth(bushy(100, "by"), worths), MOST ** 100)
        self.assertEqual(worth(bushy(99, "by"), worths), -(MOST ** 99))
        self.assertEqual(worth(("sum", num(MOST), name("a")), {"a": MOST}), 2 * MOST)

    def test_names_more(self):
        worths = {"x": 1, "a": 2, "y": 3}
        self.assertEqual(worth(name("a"), worths), 2)
        self.assertEqual(worths, {"x": 1, "a": 2, "y": 3})
        self.assertEqual(worth(num(3), {}), 3)

    def test_first_name_without_worth(self):
        tree = ("sum", ("by", name("b"), name("c")), ("less", name("a"), name("d")))
        for worths, first in (({}, "b"), ({"b": 1}, "c"), ({"b": 1, "c": 1}, "a"), ({"a": 0, "b": 0, "c": 0}, "d")):
            with self.assertRaises(NoName) as caught:
                worth(tree, worths)
            self.assertEqual(caught.exception.name, first)
            self.assertIsInstance(caught.exception, RowsmithError)
            self.assertIsInstance(caught.exception, ValueError)
            self.assertNotIsInstance(caught.exception, NoText)

    def test_a_product_with_nothing_still_needs_its_names(self):
        with self.assertRaises(NoName):
            worth(("by", num(0), name("a")), {"b": 1})

    def test_deep_tree(self):
        self.assertEqual(worth(turned(num(9), 39), {}), -9)
        self.assertEqual(worth(comb(40), {"a": 1}), 1 + sum(range(39)))


if __name__ == "__main__":
    unittest.main()
