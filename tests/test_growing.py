import random
import unittest

from rowsmith.against import against
from rowsmith.errors import TooMany
from rowsmith.growing import is_against
from rowsmith.states import all_states
from samples import (MOST, ODD_THINGS, PLAIN, bare_table, deep_thing, name, num, piece, random_table, random_web, table,
                     turned, with_prices)
from twotables import bears_out, bent, draw_two, is_plain_ring, last_prices, unrolled

A = name("a")
ANY = ("any",)
R, M = ("at", "r"), ("at", "m")
SIGNS = [("r", ("turn", R), 1)] + [("r", (word, R, R), 2) for word in ("sum", "less", "by")]
EVERY = table("r", ("r", ANY, 3), ("r", ("from", 0, MOST), 4), *SIGNS)
NEVER = table("r", ("r", ("sum", R, R), 1))
ENDLESS = table("rm", ("r", ANY, 0), ("m", ANY, 0), ("r", ("turn", R), 1), ("m", ("turn", M), 0))
# Names and turns of names; turns cost 3 or 2.
DEAR = table("r", ("r", ANY, 1), ("r", ("turn", R), 3), ("r", ("sum", R, R), 0))
CHEAP = with_prices(DEAR, tab=2)
# For r only names; for m their turns, too, which are cheaper by the one.
TURNS = table("rm", ("r", ANY, 2), ("m", ANY, 1), ("m", ("turn", M), 3))
DEAR_TURNS = with_prices(TURNS, tac=5)


class TestIsAgainst(unittest.TestCase):
    def right(self, one, cls, other, kind, thing):
        self.assertIs(is_against(one, cls, other, kind, thing), True, thing)

    def wrong(self, one, cls, other, kind, thing):
        self.assertIs(is_against(one, cls, other, kind, thing), False, thing)

    def test_what_is_told_is_right(self):
        chance = random.Random(121)
        found = {}
        for step in range(300):
            one, cls, other, kind = draw_two(chance)
            try:
                told = against(one, cls, other, kind)
            except TooMany:
                continue
            self.right(one, cls, other, kind, told)
            found[told[0]] = found.get(told[0], 0) + 1
            for word in {"none", "lacks", "within", "grows"} - {told[0]}:
                self.wrong(one, cls, other, kind, (word,) + told[1:])
            for thing in (list(told), told + (None,), told[:-1], (told,), told[::-1] if len(told) > 1 else ()):
                self.wrong(one, cls, other, kind, thing)
        self.assertEqual(sorted(found), ["grows", "lacks", "none", "within"])
        self.assertGreater(min(found.values()), 3)

    def test_none(self):
        for one in (EVERY, NEVER, ENDLESS, PLAIN):
            self.right(one, "r", NEVER, "r", ("none",))
            self.wrong(one, "r", EVERY, "r", ("none",))
            self.wrong(one, "r", ENDLESS, "r", ("none",))
            self.wrong(one, "r", PLAIN, "m", ("none",))
        # Endlessly many states, but no cover for the class.
        some = table("rmk", *[tile[1:] for tile in ENDLESS[1]], ("k", ("turn", ("at", "k")), 1))
        self.right(EVERY, "r", some, "k", ("none",))
        self.right(some, "k", some, "k", ("none",))
        self.wrong(some, "k", some, "r", ("none",))
        # By a pass, by a part within a pattern, by numbers alone.
        passed = table("rmk", ("r", ("from", MOST, MOST), 0), ("m", R, 0), ("k", ("sum", ("turn", M), ("by", ANY, M)), 0))
        self.wrong(EVERY, "r", passed, "k", ("none",))
        self.wrong(EVERY, "r", passed, "m", ("none",))
        without = table("rmk", ("r", ("turn", R), 0), ("m", R, 0), ("k", ("sum", ("turn", M), ("by", ANY, M)), 0))
        for cls in "rmk":
            self.right(EVERY, "r", without, cls, ("none",))
        for thing in (("none", ()), ("none", None), ("none", "none"), ["none"], "none", ("None",), ("",), (None,)):
            self.wrong(EVERY, "r", NEVER, "r", thing)

    def test_lacks(self):
        one = table("rm", ("r", ANY, 1), ("m", ("from", 0, 4), 1), ("r", ("turn", R), 1))
        other = table("rm", ("r", ("from", 3, 9), 1), ("r", ANY, 1), ("r", ("turn", ("turn", R)), 1))
        for web, good in (((num(3),), True), ((num(9),), True), ((num(2),), False), ((num(10),), False), ((A,), False),
                          ((A, num(5)), True), ((num(5), A), False), ((turned(num(5), 2),), True),
                          ((turned(num(5), 3),), False), ((turned(A, 2),), False), ((turned(A, 1),), False),
                          ((num(5), turned(piece(0), 2)), True), ((num(5), ("turn", piece(0)), ("turn", piece(1))), True),
                          ((num(5), ("turn", piece(0)), ("turn", piece(0))), False), ((("sum", A, A),), False)):
            self.assertIs(is_against(one, "r", other, "r", ("lacks", web)), good, web)
        self.right(one, "m", other, "r", ("lacks", (A,)))
        self.wrong(one, "m", other, "r", ("lacks", (num(3),)))
        self.wrong(one, "m", other, "m", ("lacks", (A,)))
        # Endlessly many states don't matter.
        self.wrong(EVERY, "r", ENDLESS, "r", ("lacks", (A,)))
        self.right(ENDLESS, "r", EVERY, "r", ("lacks", (num(0),)))
        self.right(ENDLESS, "r", EVERY, "r", ("lacks", (A, ("sum", piece(0), piece(0)))))
        self.wrong(ENDLESS, "r", EVERY, "r", ("lacks", (A, ("turn", piece(0)))))
        for thing in ODD_THINGS + [deep_thing(60), deep_thing(60, list), ((),) * 200000, [num(3)], (num(3), piece(1)),
                                   (num(3),) * 3001, (turned(num(3), 40),), (num(True),)]:
            self.wrong(one, "r", other, "r", ("lacks", thing))
        self.wrong(one, "r", other, "r", ("lacks", (num(3),), []))
        self.wrong(one, "r", other, "r", ("lacks",))

    def test_within_by_hand(self):
        zero, none = ((0,), (0,)), ((None,), (None,))
        one = table("r", ("r", ANY, 5), ("r", ("from", 0, 9), 9))
        other = table("r", ("r", ANY, 2), ("r", ("from", 0, 9), 1))
        for number, good in ((8, True), (7, False), (9, False), (3, False), (None, False), (0, False)):
            for web in ((num(0),), (num(9),), (A, num(4)), (num(4), piece(0))):
                self.assertIs(is_against(one, "r", other, "r", ("within", 8, web, [zero + (number,), none + (None,)])),
                              good, number)
        pairs = [zero + (8,), none + (None,)]
        self.right(one, "r", other, "r", ("within", 8, (num(0),), pairs[::-1]))
        for web in ((A,), (num(10),), (num(0), A), (("turn", A),), (num(0), ("turn", piece(0)))):
            self.wrong(one, "r", other, "r", ("within", 8, web, pairs))
        for most in (7, 9, 0, -8, None, "8", (8,), True, 3):
            self.wrong(one, "r", other, "r", ("within", most, (num(0),), pairs))
        self.wrong(one, "r", other, "r", ("within", 3, (A,), pairs))
        self.wrong(one, "r", other, "r", ("within", 3, (A,), [zero + (3,), none + (None,)]))
        # A most of 1, and a truth in its place, or in a number's.
        other = table("r", ("r", ANY, 4), ("r", ("from", 0, 9), 8))
        self.right(one, "r", other, "r", ("within", 1, (A,), [zero + (1,), none + (None,)]))
        self.wrong(one, "r", other, "r", ("within", True, (A,), [zero + (1,), none + (None,)]))
        self.wrong(one, "r", other, "r", ("within", 1, (A,), [zero + (True,), none + (None,)]))
        self.wrong(one, "r", other, "r", ("within", 1, (A,), [((False,), (0,), 1), none + (None,)]))
        self.wrong(one, "r", other, "r", ("within", 1, (A,), [((0,), (False,), 1), none + (None,)]))

    def test_pairs_left_out_doubled_and_put_in(self):
        zero, none = ((0,), (0,)), ((None,), (None,))
        one = table("r", ("r", ANY, 5), ("r", ("from", 0, 9), 5))
        other = table("r", ("r", ANY, 2), ("r", ("from", 0, 9), 2))
        pairs = [zero + (3,), none + (None,)]
        self.right(one, "r", other, "r", ("within", 3, (A,), pairs))
        for wrong in (pairs[:1], pairs[1:], [], pairs + pairs[:1], pairs + pairs[1:], pairs + [zero + (4,)],
                      pairs + [((0,), (None,), None)], pairs + [((None,), (0,), None)], pairs + [((0,), (None,), 3)],
                      pairs + [((1,), (0,), None)], pairs + [((0,), (1,), 3)], pairs + [((1,), (1,), 3)],
                      [((1,), (1,), 3), none + (None,)], [((0,), (1,), 3), none + (None,)], pairs + [((0, 0), (0,), 3)]):
            self.wrong(one, "r", other, "r", ("within", 3, (A,), wrong))

    def test_a_number_for_none_and_the_other_way(self):
        # Turns lead to no end for r; with numbers they have to hold against what comes by them.
        told = against(TURNS, "r", DEAR_TURNS, "r")
        self.assertEqual(told[:2], ("within", 0))
        turns = ((None, 0), (None, 0))
        at = [entry[:2] for entry in told[3]].index(turns)
        self.assertIsNone(told[3][at][2])
        for number, good in ((-2, True), (-1, True), (0, True), (10 ** 59, True), (-3, False), (-10 ** 59, False)):
            pairs = told[3][:at] + [turns + (number,)] + told[3][at + 1:]
            self.assertIs(is_against(TURNS, "r", DEAR_TURNS, "r", told[:3] + (pairs,)), good, number)
        # The other way round they grow without end, so no number holds.
        told = against(DEAR_TURNS, "r", TURNS, "r")
        at = [entry[:2] for entry in told[3]].index(turns)
        for number in (-100, -2, 0, 2, 3, 1000, 10 ** 59):
            pairs = told[3][:at] + [turns + (number,)] + told[3][at + 1:]
            self.wrong(DEAR_TURNS, "r", TURNS, "r", told[:3] + (pairs,))
        # None for a number: at an end, and where an end has it within.
        told = against(TURNS, "m", DEAR_TURNS, "m")
        self.right(TURNS, "m", DEAR_TURNS, "m", told)
        for at, entry in enumerate(told[3]):
            if entry[2] is not None:
                pairs = told[3][:at] + [entry[:2] + (None,)] + told[3][at + 1:]
                self.wrong(TURNS, "m", DEAR_TURNS, "m", told[:3] + (pairs,))

    def test_a_number_where_all_is_none(self):
        # Its height is 0 by both tables, whatever its parts' heights are.
        zero, none = ((0,), (0,)), ((None,), (None,))
        one, other = table("r", ("r", ANY, 2)), table("r", ("r", ANY, 5))
        for number, good in ((None, True), (0, True), (1, False), (-1, False), (-6, False), (True, False), (False, False)):
            self.assertIs(is_against(one, "r", other, "r", ("within", -3, (A,), [zero + (-3,), none + (number,)])), good)
        for number in (-10, 0, 3, 6, 10 ** 59):
            self.wrong(other, "r", one, "r", ("within", 3, (A,), [zero + (3,), none + (number,)]))
        self.right(other, "r", one, "r", ("within", 3, (A,), [zero + (3,), none + (None,)]))

    def test_none_behind_none(self):
        # Two turns of names, of which only three have a cover: the first two lead to an end.
        one = table("r", ("r", turned(ANY, 3), 5), ("r", ("sum", R, R), 0))
        told = against(one, "r", one, "r")
        self.assertEqual(told[:2], ("within", 0))
        self.right(one, "r", one, "r", told)
        leading = 0
        for at, entry in enumerate(told[3]):
            if entry[2] is not None:
                leading += 1
                self.wrong(one, "r", one, "r", told[:3] + (told[3][:at] + [entry[:2] + (None,)] + told[3][at + 1:],))
        self.assertEqual(leading, 4)

    def test_a_number_greater_or_lesser(self):
        told = against(PLAIN, "r", PLAIN, "r")
        self.right(PLAIN, "r", PLAIN, "r", told)
        chance = random.Random(122)
        found = {True: 0, False: 0}
        for step in range(150):
            one = bare_table(chance, chance.randrange(3, 8))
            other = bent(chance, one)
            cls = chance.choice(one[0])
            try:
                told = against(one, cls, other, cls, 12)
            except TooMany:
                continue
            if told[0] != "within":
                continue
            for draw in range(6):
                pairs = list(told[3])
                for more in range(chance.randrange(1, 3)):
                    at = chance.randrange(len(pairs))
                    mine, yours, number = pairs[at]
                    if {None} not in (set(mine), set(yours)):
                        new = chance.choice([None, number or 0, (number or 0) + 1, (number or 0) - 1, (number or 0) + 5])
                        pairs[at] = (mine, yours, new)
                good = bears_out(one, cls, other, cls, told[1], pairs)
                if good is not None:
                    thing = told[:3] + (pairs,)
                    self.assertIs(is_against(one, cls, other, cls, thing), good, (one, cls, other, thing))
                    found[good] += 1
        self.assertGreater(min(found.values()), 40)

    def test_lacking_trees_bar_within(self):
        one = table("r", ("r", ANY, 1))
        other = table("r", ("r", ANY, 1), ("r", ("from", 0, 0), 1))
        pairs = [((0,), (0,), 0), ((None,), (None,), None), ((None,), (0,), None)]
        for number in (None, 0, -5):
            self.wrong(one, "r", other, "r", ("within", 0, (A,), pairs[:2] + [((None,), (0,), number)]))
        self.wrong(one, "r", other, "r", ("within", 0, (A,), pairs[:2]))
        self.right(other, "r", one, "r", ("within", 0, (A,), pairs[:2] + [((0,), (None,), None)]))

    def test_within_forms(self):
        told = against(TURNS, "m", DEAR_TURNS, "m")
        for thing in ODD_THINGS + [deep_thing(60), deep_thing(60, list), [()] * 200000, (told,)]:
            self.wrong(TURNS, "m", DEAR_TURNS, "m", thing)
            for at in range(4):
                if repr(thing) != repr(told[at]):
                    self.wrong(TURNS, "m", DEAR_TURNS, "m", told[:at] + (thing,) + told[at + 1:])
            self.wrong(TURNS, "m", DEAR_TURNS, "m", told[:3] + (told[3][:-1] + [thing],))
            self.wrong(TURNS, "m", DEAR_TURNS, "m", told[:3] + (told[3] + [thing],))
            for at in range(2):
                entry = told[3][0][:at] + (thing,) + told[3][0][at + 1:]
                self.wrong(TURNS, "m", DEAR_TURNS, "m", told[:3] + ([entry] + told[3][1:],))
            if thing is not None and (not isinstance(thing, int) or isinstance(thing, bool)):
                self.wrong(TURNS, "m", DEAR_TURNS, "m", told[:3] + ([told[3][0][:2] + (thing,)] + told[3][1:],))
        for entry in (list(told[3][0]), told[3][0][:2], told[3][0] + (None,), told[3][0][::-1],
                      (list(told[3][0][0]),) + told[3][0][1:], (told[3][0][0], list(told[3][0][1]), told[3][0][2])):
            self.wrong(TURNS, "m", DEAR_TURNS, "m", told[:3] + ([entry] + told[3][1:],))
        for thing in (told[:3] + (tuple(told[3]),), told[:2] + (list(told[2]), told[3]), (told[0],) + told[2:] + told[1:2]):
            self.wrong(TURNS, "m", DEAR_TURNS, "m", thing)

    def test_endlessly_many_states_are_never_within(self):
        states = [(number, 0) for number in range(30)]
        pairs = [(state, state, 0) for state in states] + [((None, None), (None, None), None)]
        self.wrong(ENDLESS, "r", ENDLESS, "r", ("within", 0, (A,), pairs))
        bound = table("rm", *[tile[1:] for tile in ENDLESS[1]], ("r", M, 29))
        self.right(bound, "r", bound, "r", ("within", 0, (A,), pairs))
        self.assertEqual(len(all_states(bound)[1]), 31)

    def ring(self, web, low, high, one=DEAR, other=CHEAP, cls="r", kind="r"):
        return is_against(one, cls, other, kind, ("grows", web, low, high))

    def test_rings_by_hand(self):
        turn = [A] + [("turn", piece(number)) for number in range(5)]
        self.assertIs(self.ring(tuple(turn[:2]), 0, 1), True)
        for low in range(-1, 5):
            for high in range(-1, 5):
                self.assertIs(self.ring(tuple(turn[:4]), low, high), 0 <= low < high <= 3, (low, high))
        for web, low, high, good in (
                ((A, ("sum", piece(0), piece(0))), 0, 1, False),                        # Nothing is gained, and twice.
                ((A, ("turn", ("sum", piece(0), piece(0)))), 0, 1, False),              # Twice.
                ((A, ("turn", ("sum", piece(0), A))), 0, 1, True),
                ((A, piece(0), ("turn", ("sum", piece(0), piece(1)))), 0, 2, False),
                ((A, A, ("turn", ("sum", piece(0), piece(1)))), 0, 2, True),
                ((A, A, ("turn", ("sum", piece(0), piece(1)))), 1, 2, True),
                ((A, A, ("turn", piece(0))), 1, 2, False),                              # Not at all.
                ((A, ("turn", piece(0)), ("turn", A)), 0, 2, False),
                ((A, ("turn", piece(0)), ("sum", piece(1), piece(1))), 0, 2, False),
                ((A, ("turn", piece(0)), ("sum", piece(1), piece(1))), 0, 1, False),    # The last one has high twice.
                ((A, ("turn", piece(0)), ("sum", piece(1), A)), 0, 1, True),
                ((A, ("turn", piece(0)), ("sum", piece(1), piece(0))), 0, 1, True),
                ((A, ("turn", piece(0)), A), 0, 1, False),
                ((A, ("turn", piece(0)), num(0)), 0, 1, False),
                ((A, ("turn", piece(0)), ("by", piece(1), A)), 0, 1, False),            # The last one has no cover.
                ((A, ("turn", piece(0)), ("sum", piece(1), num(0))), 0, 1, False),
                ((A, ("turn", piece(0)), ("sum", piece(1), A), ("turn", piece(2))), 0, 1, True),
                ((A, ("turn", piece(0)), piece(1), ("sum", piece(2), piece(1))), 0, 1, False),
                ((A, ("turn", piece(0)), piece(1), piece(2)), 0, 1, True),
                ((A, ("turn", piece(0)), piece(1), piece(2)), 0, 3, True),
                ((A, piece(0)), 0, 1, False),                                           # Nothing is gained.
                ((("turn", A), A, ("turn", ("turn", piece(1)))), 0, 2, False),
                ((num(0), ("turn", piece(0))), 0, 1, False)):
            self.assertIs(self.ring(web, low, high), good, (web, low, high))
            self.assertIs(is_plain_ring(DEAR, "r", CHEAP, "r", web, low, high), good)
            self.assertIs(self.ring(web, high, low), False)
            self.assertIs(self.ring(web, low, high, CHEAP, DEAR), False)
            self.assertIs(self.ring(web, low, high, DEAR, DEAR), False)

    def test_states_of_rings(self):
        # A turn alone has another state than a name: the pattern of two turns lies on what has one.
        one = table("r", ("r", ANY, 1), ("r", ("turn", ("turn", R)), 3))
        other = with_prices(one, tab=2)
        web = tuple([A] + [("turn", piece(number)) for number in range(5)])
        for low in range(5):
            for high in range(low + 1, 5):
                self.assertIs(self.ring(web[:5], low, high, one, other), (high - low) in (2, 4), (low, high))
        self.assertIs(self.ring(web[:4], 0, 2, one, other), False)
        self.assertIs(self.ring(web[:3], 0, 2, one, other), True)
        # Alike by the one table alone, or by the other one alone.
        self.assertIs(self.ring(web[:3], 0, 1, DEAR, other), False)
        self.assertIs(self.ring(web[:3], 0, 1, other, DEAR), False)
        self.assertIs(self.ring(web[:3], 0, 2, DEAR, other), True)

    def test_a_tree_that_lacks_a_cover_is_not_looked_at(self):
        web = (A, ("turn", piece(0)))
        other = table("r", *[tile[1:] for tile in CHEAP[1]], ("r", ("from", 0, 5), 1))
        self.assertEqual(against(DEAR, "r", other, "r")[0], "lacks")
        self.assertIs(self.ring(web, 0, 1, DEAR, other), True)
        # Endlessly many states don't matter either.
        self.assertIs(is_against(ENDLESS, "r", CHEAP, "r", ("grows", web, 0, 1)), False)
        dear = with_prices(ENDLESS, tac=0)
        self.assertIs(is_against(table("rm", *[tile[1:] for tile in dear[1]], ("r", ("sum", R, R), 1)), "r", dear, "r",
                                 ("grows", web, 0, 1)), False)

    def test_very_long_webs(self):
        web = (A,) + tuple(("turn", piece(number)) for number in range(2999))
        self.assertIs(self.ring(web, 0, 1), True)
        self.assertIs(self.ring(web, 1000, 2000), True)
        self.assertIs(self.ring(web, 0, 2999), True)
        self.assertIs(self.ring(web + (A,), 0, 1), False)
        doubled = (A,) + tuple(("sum", piece(number), piece(number)) for number in range(2998))
        self.assertIs(self.ring(doubled + (("turn", piece(2998)),), 2998, 2999), True)
        self.assertIs(self.ring(doubled + (("turn", piece(2998)),), 2997, 2999), False)

    def test_rings_at_random(self):
        chance = random.Random(123)
        found = {True: 0, False: 0}
        for step in range(250):
            web = random_web(chance, chance.randrange(2, 7), 3)
            one = chance.choice([EVERY, EVERY, random_table(chance, 7)])
            other = bent(chance, one)
            cls = chance.choice(one[0])
            for low in range(len(web)):
                for high in range(len(web)):
                    good = is_plain_ring(one, cls, other, cls, web, low, high)
                    self.assertIs(self.ring(web, low, high, one, other, cls, cls), good)
                    found[good] += 1
        self.assertGreater(found[True], 15)

    def test_told_rings_bent(self):
        chance = random.Random(124)
        found = {True: 0, False: 0}
        for step in range(120):
            one = random_table(chance, chance.randrange(6, 10))
            other = bent(chance, one)
            cls = chance.choice(one[0])
            try:
                told = against(one, cls, other, cls)
            except TooMany:
                continue
            if told[0] != "grows":
                continue
            word, web, low, high = told
            mine, yours = last_prices(one, cls, other, cls, web)
            more = last_prices(one, cls, other, cls, unrolled(web, low, high, 1))
            self.assertGreater(more[0] - more[1], mine - yours)
            self.right(one, cls, other, cls, (word, unrolled(web, low, high, 2), low, high))
            for thing in ((word, web, high, low), (word, web, low, low), (word, web, high, high), (word, web, low, len(web)),
                          (word, web, low - len(web), high), (word, web, low, str(high)), (word, web, None, high),
                          (word, list(web), low, high), (word, web + (num(0),), low, high), (word, web, low)):
                self.wrong(one, cls, other, cls, thing)
            for draw in range(4):
                number = chance.randrange(len(web))
                tree = chance.choice([A, num(3)] + [("turn", piece(below)) for below in range(number)])
                changed = web[:number] + (tree,) + web[number + 1:]
                good = is_plain_ring(one, cls, other, cls, changed, low, high)
                self.assertIs(is_against(one, cls, other, cls, (word, changed, low, high)), good)
                found[good] += 1
        self.assertGreater(min(found.values()), 10)

    def test_ring_forms(self):
        web = (A, ("turn", piece(0)), ("sum", piece(1), A))
        told = ("grows", web, 0, 1)
        self.right(DEAR, "r", CHEAP, "r", told)
        for thing in ODD_THINGS + [deep_thing(60), deep_thing(60, list), ((),) * 200000, (told,), -10 ** 59]:
            self.wrong(DEAR, "r", CHEAP, "r", thing)
            for at in range(4):
                if repr(thing) != repr(told[at]):
                    self.wrong(DEAR, "r", CHEAP, "r", told[:at] + (thing,) + told[at + 1:])
            self.wrong(DEAR, "r", CHEAP, "r", ("grows", web[:2] + (thing,), 0, 1))
        for thing in (("grows", web, False, 1), ("grows", web, 0, True), ("grows", web, False, True), list(told),
                      ("grows", list(web), 0, 1), ("grows", web, 0, 1, 2), ("grow", web, 0, 1), ("", web, 0, 1)):
            self.wrong(DEAR, "r", CHEAP, "r", thing)

    def test_nothing_is_changed(self):
        told = against(TURNS, "m", DEAR_TURNS, "m")
        kept = list(told[3])
        self.right(TURNS, "m", DEAR_TURNS, "m", told)
        self.assertEqual(told[3], kept)


if __name__ == "__main__":
    unittest.main()
