import itertools
import random
import unittest

from rowsmith.errors import NoName, NoRow, NoText, RowsmithError
from rowsmith.trees import is_tree, pieces
from rowsmith.treetexts import read, shown
from samples import MOST, bushy, comb, name, num, random_tree, turned

FIGURES = "0123456789"
LETTERS = "abcdefghijklmnopqrstuvwxyz"


def leaf_prefixes(text, at):
    """Where a leaf that begins at a sign may end, and whether the text may end within it, by its definition."""
    ends = []
    for end in range(at + 1, min(len(text), at + 20) + 1):
        part = text[at:end]
        figures = all(sign in FIGURES for sign in part)
        letters = all(sign in LETTERS for sign in part)
        if (letters and len(part) <= 8) or (figures and str(int(part)) == part and int(part) <= MOST):
            ends.append(end)
    return ends, at == len(text) or (bool(ends) and ends[-1] == len(text))


def prefixes(text, at):
    """The same of a tree, its six forms tried one by one."""
    ends, runs_out = leaf_prefixes(text, at)
    ends = set(ends)
    for form in ("(- T)", "(T + T)", "(T - T)", "(T * T)"):
        spots = {at}
        for sign in form:
            following = set()
            for spot in spots:
                if sign == "T":
                    more, out = prefixes(text, spot)
                    following |= more
                    runs_out = runs_out or out
                elif spot == len(text):
                    runs_out = True
                elif text[spot] == sign:
                    following.add(spot + 1)
            spots = following
        ends |= spots
    return ends, runs_out


def first_wrong(text):
    """The number that NoText has to have, or None where the text writes a tree; slow, for short texts."""
    ends, runs_out = prefixes(text, 0)
    if len(text) in ends:
        return None
    for length in range(1, len(text) + 1):
        ends, runs_out = prefixes(text[:length], 0)
        if length not in ends and not runs_out:
            return length - 1
    return len(text)


class TestShown(unittest.TestCase):
    pairs = [
        (num(0), "0"), (num(7), "7"), (num(100), "100"), (num(MOST), "1" + "0" * 18), (name("a"), "a"),
        (name("abcdefgh"), "abcdefgh"), (("turn", name("a")), "(- a)"), (("turn", num(0)), "(- 0)"),
        (("sum", name("a"), num(1)), "(a + 1)"), (("less", name("a"), num(1)), "(a - 1)"),
        (("by", name("a"), num(1)), "(a * 1)"), (("turn", ("turn", name("b"))), "(- (- b))"),
        (("less", ("turn", name("a")), ("by", num(2), ("sum", name("b"), num(3)))), "((- a) - (2 * (b + 3)))"),
    ]

    def test_written_and_read_again(self):
        for tree, text in self.pairs:
            self.assertEqual(shown(tree), text)
            self.assertEqual(read(text), tree)

    def test_random_trees(self):
        chance = random.Random(2)
        for step in range(300):
            tree = random_tree(chance, 7)
            self.assertEqual(read(shown(tree)), tree)

    def test_bounds(self):
        for tree in (bushy(100), ("turn", bushy(100)), comb(40), turned(num(1), 39)):
            self.assertTrue(is_tree(tree))
            self.assertEqual(read(shown(tree)), tree)


class TestNoText(unittest.TestCase):
    def wrong(self, text, at):
        with self.assertRaises(NoText) as caught:
            read(text)
        self.assertEqual(caught.exception.at, at, text)

    def test_kinds_of_refusal(self):
        with self.assertRaises(NoText) as caught:
            read("")
        for above in (RowsmithError, ValueError):
            self.assertIsInstance(caught.exception, above)
        for other in (NoName, NoRow):
            self.assertNotIsInstance(caught.exception, other)

    def test_signs_that_cannot_stand_there(self):
        for text, at in (("A", 0), ("-", 0), (")", 0), ("+", 0), ("@a", 0), ("?", 0), ("~", 0), ("a1", 1), ("1a", 1),
                         ("aB", 1), ("()", 1), ("(+ a)", 1), ("(a)", 2), ("(a + b + c)", 6), ("(a / b)", 3),
                         ("(a +- b)", 4), ("(- a - b)", 4), ("(a - -1)", 5), ("-1", 0), ("(a ) b)", 3), ("1.5", 1)):
            self.wrong(text, at)

    def test_blanks(self):
        for text, at in ((" a", 0), ("a ", 1), ("( a + b)", 1), ("(a  + b)", 3), ("(a +  b)", 5), ("(a + b )", 6),
                         ("(a+ b)", 2), ("(a +b)", 4), ("(-a)", 2), ("(-  a)", 3), ("(- a )", 4), ("( - a)", 1),
                         ("(a + b) ", 7), (" ", 0), ("1 0", 1), ("(a +b", 4)):
            self.wrong(text, at)

    def test_figures(self):
        for text, at in (("00", 1), ("01", 1), ("007", 1), ("(a + 01)", 6), ("1" + "0" * 18 + "1", 19),
                         ("1" + "0" * 17, None), ("1" + "0" * 18, None), ("1" + "0" * 17 + "1", 18),
                         (str(MOST + 1), 18), (str(2 * MOST), 18), ("9" * 18, None), ("9" * 19, 18), ("9" * 40, 18),
                         ("1" + "0" * 19, 19), ("(" + str(MOST + 1) + " + a)", 19)):
            if at is None:
                self.assertEqual(read(text), num(int(text)))
            else:
                self.wrong(text, at)

    def test_names(self):
        for text, at in (("abcdefghi", 8), ("a" * 20, 8), ("(- abcdefghi)", 11), ("(a + " + "b" * 9 + ")", 13)):
            self.wrong(text, at)

    def test_texts_that_end_too_soon(self):
        whole = "((- a) - (2 * (bc + 30)))"
        for length in range(len(whole)):
            self.wrong(whole[:length], length)
        self.wrong("", 0)

    def test_tails(self):
        for text, at in (("a+", 1), ("(a + b)c", 7), ("(a + b))", 7), ("(- a)(- a)", 5), ("5)", 1), ("a(", 1)):
            self.wrong(text, at)

    def test_line_ends(self):
        for text, at in (("\n", 0), ("a\n", 1), ("\na", 0), ("(a\n+ b)", 2), ("(a + b)\n", 7), ("(-\na)", 2)):
            self.wrong(text, at)

    def test_too_many_pieces(self):
        for tree in (bushy(101), turned(bushy(100), 2), bushy(2000)):
            text = shown(tree)
            self.assertGreater(pieces(tree), 200)
            self.wrong(text, len(text))

    def test_too_far_within(self):
        for tree in (turned(num(1), 40), comb(41), ("sum", num(1), turned(num(1), 39))):
            text = shown(tree)
            self.assertLess(pieces(tree), 200)
            self.wrong(text, len(text))

    def test_a_wrong_sign_goes_ahead_of_the_bounds(self):
        self.wrong(shown(bushy(101)) + " ", len(shown(bushy(101))))
        self.wrong(shown(turned(num(1), 60))[:-1] + "]", len(shown(turned(num(1), 60))) - 1)
        self.wrong(shown(turned(num(1), 60))[:-1], len(shown(turned(num(1), 60))) - 1)

    def test_two_hundred_brackets(self):
        for begin, end in (("(- ", ")"), ("(", " + a)"), ("(a * ", ")")):
            text = begin * 200 + "b" + end * 200
            self.wrong(text, len(text))
            self.wrong(begin * 200, len(begin * 200))
            self.wrong(begin * 200 + "b" + end * 199, len(begin * 200 + "b" + end * 199))
            self.wrong(begin * 200 + "B", len(begin * 200))
            self.wrong(text + ")", len(text))
            self.wrong(begin * 39 + "b" + end * 39 + " ", len(begin * 39 + "b" + end * 39))

    def test_long_texts(self):
        self.wrong("a" * 20000, 8)
        self.wrong("1" * 20000, 18)
        self.wrong(" " * 20000, 0)
        flat = shown(bushy(3000))
        self.assertLess(len(flat), 20000)
        self.wrong(flat, len(flat))

    def test_all_short_texts(self):
        for length in range(6):
            for signs in itertools.product("a10(- )+", repeat=length):
                self.compare("".join(signs))

    def test_texts_with_a_fault(self):
        chance = random.Random(3)
        for step in range(400):
            text = shown(random_tree(chance, 4))
            at = chance.randrange(len(text) + 1)
            sign = chance.choice(["", " ", "a", "0", "1", "(", ")", "-", "+", "*", "\n", "~", "aaaaaaaa"])
            self.compare(text[:at] + sign + text[at + chance.randrange(2):])

    def compare(self, text):
        at = first_wrong(text)
        if at is None:
            self.assertEqual(shown(read(text)), text)
        else:
            self.wrong(text, at)


if __name__ == "__main__":
    unittest.main()
