import random
import unittest

from rowsmith.tables import holes, is_table, leaves
from samples import MOST, ODD_THINGS, deep_thing, num, table

AT = ("at", "r")
ANY = ("any",)


def wide(word, count, leaf):
    """A pattern of as many leaves, two and two: 2 * count - 1 pieces."""
    row = [leaf] * count
    while len(row) > 1:
        pairs = [(word, row[k], row[k + 1]) for k in range(0, len(row) - 1, 2)]
        row = pairs + row[len(row) - len(row) % 2:]
    return row[0]


def deep(count, leaf):
    """A pattern of turns with as many pieces within one another."""
    for step in range(count - 1):
        leaf = ("turn", leaf)
    return leaf


def one_tile(pattern, classes=("r", "m")):
    """The table whose only tile has this pattern."""
    return (classes, (("t", classes[0], pattern, 1),))


NAMES = [first + second for first in "abcdefgh" for second in "abcdefgh"]


class TestClasses(unittest.TestCase):
    tiles = (("t", "a", ANY, 1),)

    def test_counts(self):
        for count in range(9):
            self.assertIs(is_table((tuple("abcdefgh")[:count], self.tiles)), 1 <= count <= 6)

    def test_unlike_names(self):
        for classes in (("a", "a"), ("a", "b", "a"), ("a", "b", "c", "d", "e", "b")):
            self.assertIs(is_table((classes, self.tiles)), False)
        self.assertIs(is_table((("a", "abcdefgh"), self.tiles)), True)
        for wrong in ("", "abcdefghi", "B", "b1", 1, None, True, ("b",), ["b"], (), []):
            self.assertIs(is_table((("a", wrong), self.tiles)), False, wrong)

    def test_other_things(self):
        for classes in ([], ["a"], "a", None, True, 1, ((), ), (["a"],), ("a", ["a"])):
            self.assertIs(is_table((classes, self.tiles)), False, classes)


class TestTiles(unittest.TestCase):
    def test_counts(self):
        tiles = tuple((name, "r", ANY, 1) for name in NAMES)
        for count in (1, 2, 39, 40):
            self.assertIs(is_table((("r",), tiles[:count])), True)
        for count in (0, 41, 64):
            self.assertIs(is_table((("r",), tiles[:count])), False)

    def test_unlike_names(self):
        self.assertIs(is_table((("r",), (("a", "r", ANY, 1), ("b", "r", ANY, 1)))), True)
        self.assertIs(is_table((("r",), (("a", "r", ANY, 1), ("a", "r", AT, 2)))), False)
        self.assertIs(is_table((("r",), (("a", "r", ANY, 1), ("b", "r", ANY, 1), ("a", "r", ANY, 1)))), False)
        self.assertIs(is_table((("r",), (("r", "r", ANY, 1),))), True)

    def test_names(self):
        for name in ("a", "abcdefgh", "any"):
            self.assertIs(is_table((("r",), ((name, "r", ANY, 1),))), True)
        for name in ("", "abcdefghi", "A", "a1", " ", None, 1, True, ("a",), ["a"]):
            self.assertIs(is_table((("r",), ((name, "r", ANY, 1),))), False, name)

    def test_class_of_a_tile(self):
        for cls in ("r", "m"):
            self.assertIs(is_table((("r", "m"), (("t", cls, ANY, 1),))), True)
        for cls in ("x", "", "rm", None, True, 0, 1, ("r",), ["r"], ("r", "m")):
            self.assertIs(is_table((("r", "m"), (("t", cls, ANY, 1),))), False, cls)

    def test_prices(self):
        for price in (0, 1, 999, 1000):
            self.assertIs(is_table((("r",), (("t", "r", ANY, price),))), True)
        for price in (-1, 1001, 10 ** 59, True, False, None, "1", (1,), [1]):
            self.assertIs(is_table((("r",), (("t", "r", ANY, price),))), False, price)

    def test_passes(self):
        self.assertIs(is_table((("r", "m"), (("t", "r", ("at", "m"), 1),))), True)
        self.assertIs(is_table((("r", "m"), (("t", "r", ("at", "r"), 1),))), False)
        self.assertIs(is_table((("r", "m"), (("a", "r", ANY, 1), ("t", "m", ("at", "m"), 0)))), False)
        self.assertIs(is_table((("r", "m"), (("t", "r", ("turn", ("at", "r")), 1),))), True)

    def test_forms(self):
        good = ("t", "r", ANY, 1)
        for tile in (good[:3], good + (1,), list(good), (), [], None, "t", 1, True, ("t", "r", 1, ANY)):
            self.assertIs(is_table((("r",), (tile,))), False, tile)
            self.assertIs(is_table((("r",), (("a", "r", ANY, 1), tile))), False, tile)
        for tiles in ([good], good, None, 1, "t", [], ((),)):
            self.assertIs(is_table((("r",), tiles)), False, tiles)
        for thing in ([("r",), (good,)], (("r",),), (("r",), (good,), ()), ((good,), ("r",))):
            self.assertIs(is_table(thing), False, thing)
        for thing in ODD_THINGS:
            self.assertIs(is_table(thing), False, thing)

    def test_large_things(self):
        for thing in (deep_thing(60), deep_thing(60, list), (("r",), (("t", "r", ANY, 1),) * 40000), ("a",) * 100000,
                      (("a",) * 100000, (("t", "a", ANY, 1),)), one_tile(deep_thing(57)), one_tile(deep(50, ANY))):
            self.assertIs(is_table(thing), False)
        shared = ANY
        for step in range(50):
            shared = ("sum", shared, shared)
        self.assertIs(is_table(one_tile(shared)), False)


class TestPatterns(unittest.TestCase):
    def good(self, pattern):
        self.assertIs(is_table(one_tile(pattern)), True, pattern)

    def bad(self, pattern):
        for whole in (pattern, ("turn", pattern), ("sum", ANY, pattern), ("by", pattern, ("turn", AT))):
            self.assertIs(is_table(one_tile(whole)), False, whole)

    def test_each_kind(self):
        for pattern in (("at", "m"), ANY, ("from", 0, 5), ("turn", AT), ("sum", AT, ANY), ("less", ANY, AT),
                        ("by", ("from", 2, 2), AT), ("sum", ("turn", ("at", "m")), ("by", AT, ("from", 0, MOST)))):
            self.good(pattern)

    def test_holes_of_the_classes_alone(self):
        for hole in (("at", "x"), ("at", ""), ("at",), ("at", "r", "m"), ("at", None), ("at", 0), ("at", True),
                     ("at", ("r",)), ("at", ["r"]), ["at", "r"]):
            self.bad(hole)

    def test_stretches(self):
        for low, high in ((0, 0), (0, MOST), (MOST, MOST), (3, 4), (3, 3), (MOST - 1, MOST)):
            self.good(("from", low, high))
        for low, high in ((1, 0), (MOST, MOST - 1), (-1, 0), (-2, -1), (0, MOST + 1), (MOST + 1, MOST + 1),
                          (True, 1), (0, True), (False, 1), (None, 1), (0, None), ("0", "1"), ((0,), 1), ([0], [1])):
            self.bad(("from", low, high))
        for leaf in (("from",), ("from", 0), ("from", 0, 1, 2), ["from", 0, 1], ("from", (0, 1))):
            self.bad(leaf)

    def test_forms(self):
        for pattern in (("any", 1), ("any", "r"), ["any"], "any", ("turn",), ("turn", AT, AT), ("sum", AT),
                        ("sum", AT, AT, AT), ["sum", AT, AT], ("less",), ("by", AT), ("num", 1), ("name", "a"),
                        num(1), ("piece", 0), (), [], None, True, 1, ("",), (None,), ((),), ([],), (["any"],),
                        (("any",),), ("ANY",), ("sum", "r", "r"), ("turn", "any"), ("turn", ["any"])):
            self.bad(pattern)

    def test_nine_pieces(self):
        self.good(wide("sum", 5, ANY))
        self.good(("turn", wide("sum", 4, ANY)))
        self.bad(("turn", wide("sum", 5, ANY)))
        self.bad(wide("by", 6, ANY))

    def test_five_within(self):
        self.good(deep(5, ANY))
        self.assertIs(is_table(one_tile(deep(6, ANY))), False)
        self.good(("sum", ANY, deep(4, AT)))
        self.assertIs(is_table(one_tile(("sum", ANY, deep(5, AT)))), False)
        self.assertIs(is_table(one_tile(("sum", deep(5, AT), ANY))), False)

    def test_four_holes(self):
        self.good(wide("sum", 4, AT))
        self.assertIs(is_table(one_tile(wide("sum", 5, AT))), False)
        self.good(("sum", wide("sum", 4, AT), ANY))


class TestHolesAndLeaves(unittest.TestCase):
    pattern = ("sum", ("by", ("at", "m"), ("from", 1, 2)), ("less", ("turn", ANY), ("at", "r")))

    def test_order_of_places(self):
        self.assertEqual(holes(self.pattern), [((0, 0), "m"), ((1, 1), "r")])
        self.assertEqual(leaves(self.pattern), [((0, 1), ("from", 1, 2)), ((1, 0, 0), ANY)])

    def test_single_leaves(self):
        self.assertEqual((holes(AT), leaves(AT)), ([((), "r")], []))
        self.assertEqual((holes(ANY), leaves(ANY)), ([], [((), ANY)]))
        self.assertEqual((holes(("from", 3, 4)), leaves(("from", 3, 4))), ([], [((), ("from", 3, 4))]))

    def test_words_as_names_of_classes(self):
        pattern = ("sum", ("at", "any"), ("at", "sum"))
        self.assertEqual((holes(pattern), leaves(pattern)), ([((0,), "any"), ((1,), "sum")], []))

    def test_told_lists_are_the_askers_own(self):
        for tell in (holes, leaves):
            first = tell(self.pattern)
            kept = list(first)
            first.clear()
            self.assertEqual(tell(self.pattern), kept)

    def test_random_patterns(self):
        chance = random.Random(4)

        def some(depth):
            kind = chance.randrange(7 if depth > 1 else 3)
            if kind < 3:
                return (("at", chance.choice("rm")), ANY, ("from", 0, chance.randrange(9)))[kind]
            if kind == 3:
                return ("turn", some(depth - 1))
            return (("sum", "less", "by")[kind - 4], some(depth - 1), some(depth - 1))

        def flat(pattern, place):
            if pattern[0] in ("at", "any", "from"):
                return [(place, pattern)]
            return [entry for k, part in enumerate(pattern[1:]) for entry in flat(part, place + (k,))]

        def size(pattern):
            return 1 + sum(size(part) for part in pattern[1:] if isinstance(part, tuple))

        for step in range(300):
            pattern = some(5)
            told = flat(pattern, ())
            self.assertEqual(holes(pattern), [(place, leaf[1]) for place, leaf in told if leaf[0] == "at"])
            self.assertEqual(leaves(pattern), [(place, leaf) for place, leaf in told if leaf[0] != "at"])
            fits = size(pattern) <= 9 and len(holes(pattern)) <= 4 and pattern != AT
            self.assertIs(is_table(one_tile(pattern)), fits)

    def test_samples_are_tables(self):
        self.assertIs(is_table(table("rm", ("r", ANY, 1), ("m", AT, 0))), True)


if __name__ == "__main__":
    unittest.main()
