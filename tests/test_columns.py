import random
import unittest

from rowsmith.columns import columns
from samples import PLAIN, bare_table, table

AT = ("at", "r")
ANY = ("any",)


def pieces_of(pattern):
    """The pieces of a pattern, itself first, then those of part 0, then those of part 1."""
    found = [pattern]
    if pattern[0] in ("turn", "sum", "less", "by"):
        for part in pattern[1:]:
            found += pieces_of(part)
    return found


def plain_columns(some):
    """The columns, by the words of the document."""
    found = list(some[0])
    for tile in some[1]:
        for piece in pieces_of(tile[2])[1:]:
            if piece[0] != "at" and piece not in found:
                found.append(piece)
    return found


class TestColumns(unittest.TestCase):
    def test_classes_alone(self):
        self.assertEqual(columns(table("r", ("r", ANY, 1))), ["r"])
        self.assertEqual(columns(table("zab", ("z", ("sum", ("at", "b"), ("at", "a")), 1), ("a", ("at", "z"), 1))),
                         ["z", "a", "b"])
        self.assertIsInstance(columns(PLAIN), list)

    def test_by_hand(self):
        self.assertEqual(columns(PLAIN), ["r", "m", ("by", AT, ("at", "m")), ("from", 5, 7)])

    def test_order_of_tiles_and_places(self):
        inner = ("sum", ("turn", ("from", 1, 2)), ANY)
        some = table("r", ("r", ("turn", ("from", 9, 9)), 1), ("r", ("less", ("by", AT, ("from", 1, 2)), inner), 1),
                     ("r", ANY, 1), ("r", ("turn", ("turn", ANY)), 1))
        self.assertEqual(columns(some), ["r", ("from", 9, 9), ("by", AT, ("from", 1, 2)), ("from", 1, 2), inner,
                                         ("turn", ("from", 1, 2)), ANY, ("turn", ANY)])

    def test_each_piece_once(self):
        double = ("sum", ("turn", ANY), ("turn", ANY))
        some = table("r", ("r", double, 1), ("r", ("less", double, double), 1), ("r", ("turn", double), 2))
        self.assertEqual(columns(some), ["r", ("turn", ANY), ANY, double])
        some = table("r", ("r", ("sum", ("from", 1, 2), ("from", 1, 3)), 1), ("r", ("by", ("from", 1, 2), AT), 1))
        self.assertEqual(columns(some), ["r", ("from", 1, 2), ("from", 1, 3)])

    def test_some_tiles_whole_pattern(self):
        some = table("r", ("r", ANY, 1), ("r", ("turn", AT), 1), ("r", ("sum", ("turn", AT), AT), 1))
        self.assertEqual(columns(some), ["r", ("turn", AT)])
        some = table("r", ("r", ("sum", ANY, AT), 1), ("r", ANY, 1))
        self.assertEqual(columns(some), ["r", ANY])

    def test_random_tables(self):
        chance = random.Random(81)
        for step in range(200):
            some = bare_table(chance, chance.randrange(1, 41))
            self.assertEqual(columns(some), plain_columns(some))

    def test_told_lists_are_the_askers_own(self):
        first = columns(PLAIN)
        first.clear()
        self.assertEqual(len(columns(PLAIN)), 4)


if __name__ == "__main__":
    unittest.main()
