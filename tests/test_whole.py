"""What the document promises over the whole program, drawn together from all stages."""

import random
import unittest

from rowsmith.against import against
from rowsmith.cells import is_thrift, need, rows_of, thrift_paper, thrifty
from rowsmith.classes import cheapest, is_cheapest, led_to
from rowsmith.counts import all_covers
from rowsmith.covers import price
from rowsmith.desk import Desk
from rowsmith.errors import TooMany
from rowsmith.exchanges import exchanged, exchanges
from rowsmith.gaps import gap
from rowsmith.growing import is_against
from rowsmith.keeping import front_price, is_keeping, keeping
from rowsmith.labels import is_paper, labels
from rowsmith.least import least
from rowsmith.rows import behind, run
from rowsmith.states import all_states, are_states, prices, walked
from rowsmith.straight import apart, straight
from rowsmith.tabletexts import read_table, shown_table
from rowsmith.trees import is_tree, names_in, worth
from rowsmith.treetexts import read, shown
from rowsmith.webs import open_last, opened, web_worths
from samples import MOST, PLAIN, bare_table, plainly_opened, random_table, random_tree, random_web, with_prices


def drawn(chance, count, depth=5):
    """Some trees, tables and classes of these."""
    for step in range(count):
        some = chance.choice([PLAIN, random_table(chance, 12), bare_table(chance, 10)])
        yield some, random_tree(chance, chance.randrange(1, depth + 1)), chance.choice(some[0])


class TestWhole(unittest.TestCase):
    def test_rows_leave_the_worth(self):
        chance = random.Random(171)
        found = 0
        for some, tree, cls in drawn(chance, 200):
            told = thrifty(some, tree, cls)
            self.assertEqual(told is None, least(some, tree, cls) is None)
            if told is None:
                continue
            found += 1
            for cover in (told[2], least(some, tree, cls)):
                rows = rows_of(some, tree, cover)
                self.assertEqual([entry[1:] for entry in behind(some, rows)], [(cls, tree)])
                for draw in range(3):
                    worths = {one: chance.choice([0, MOST, -MOST, chance.randrange(-9, 9)]) for one in names_in(tree)}
                    self.assertEqual([left for cell, left in run(some, rows, worths)], [worth(tree, worths)])
        self.assertGreater(found, 100)

    def test_the_price_is_the_least_of_all_covers(self):
        chance = random.Random(172)
        found = 0
        for some, tree, cls in drawn(chance, 200, 4):
            try:
                covers = all_covers(some, tree, cls, 1000)
            except TooMany:
                continue
            told = thrifty(some, tree, cls)
            label = labels(some, tree)[0][1][some[0].index(cls)]
            self.assertIs(is_paper(some, tree, labels(some, tree)), True)
            self.assertIs(is_thrift(some, tree, thrift_paper(some, tree)), True)
            if not covers:
                self.assertEqual((told, label), (None, None))
                continue
            found += len(covers) > 1
            self.assertEqual(told[:2], min((price(some, cover), need(some, cover)) for cover in covers))
            self.assertEqual(label, told[0])
        self.assertGreater(found, 15)

    def test_the_cheapest_choice_for_a_web(self):
        chance = random.Random(173)
        for step in range(25):
            some = chance.choice([PLAIN, random_table(chance, 9)])
            web = random_web(chance, 3, 3)
            goals = [(chance.randrange(3), chance.choice(some[0])) for goal in range(2)]
            told = keeping(some, web, goals)
            self.assertIs(is_keeping(some, web, goals, told), True)
            if told[0] is not None:
                self.assertEqual(front_price(some, web, goals, told[1]), told[0])

    def test_states_are_a_closed_list(self):
        chance = random.Random(174)
        found = 0
        for some, tree, cls in drawn(chance, 60):
            try:
                told = all_states(some)
            except TooMany:
                continue
            found += 1
            self.assertIs(are_states(some, told), True)
            web = random_web(chance, 4, 4) + (tree,)
            for (number, height), costs in zip(walked(some, told[1], web), prices(some, web)):
                self.assertEqual(tuple(None if had is None else had + height for had in told[1][number]), costs)
            self.assertEqual(prices(some, web)[-1][:len(some[0])], labels(some, tree)[0][1])
        self.assertGreater(found, 30)

    def test_a_class_without_a_gap_has_a_cover_for_each_tree(self):
        chance = random.Random(175)
        found = {"all": 0, "lacks": 0}
        for some, tree, cls in drawn(chance, 150):
            told = gap(some, cls, 1000)
            found[told[0]] += 1
            if told[0] == "all":
                for draw in range(8):
                    self.assertIsNotNone(least(some, random_tree(chance, 5), cls))
            elif opened(told[1])[-1] <= 200:
                lacking = open_last(told[1])
                self.assertIsNone(least(some, lacking, cls))
        self.assertGreater(min(found.values()), 10)

    def test_one_table_against_another(self):
        chance = random.Random(176)
        found = {}
        for some, tree, cls in drawn(chance, 120):
            other = with_prices(some, **{chance.choice(some[1])[0]: chance.randrange(6) for step in range(2)})
            try:
                told = against(some, cls, other, cls)
            except TooMany:
                continue
            found[told[0]] = found.get(told[0], 0) + 1
            self.assertIs(is_against(some, cls, other, cls, told), True)
            column = some[0].index(cls)
            mine, yours = labels(some, tree)[0][1][column], labels(other, tree)[0][1][column]
            if told[0] == "within" and yours is not None:
                self.assertLessEqual(mine - yours, told[1])
        self.assertGreater(min(found.get(word, 0) for word in ("within", "grows")), 20, found)

    def test_exchanges_never_change_the_straight_sum(self):
        chance = random.Random(177)
        done = 0
        for step in range(80):
            tree = random_tree(chance, 4)
            here = tree
            for draw in range(12):
                ways = exchanges(here)
                if ways:
                    here = exchanged(here, chance.choice(ways))
                    done += 1
            self.assertTrue(is_tree(here))
            self.assertEqual(straight(here, 1000), straight(tree, 1000))
            self.assertIsNone(apart(tree, here, 1000))
            worths = {one: chance.randrange(-99, 99) for one in names_in(tree)}
            self.assertEqual(worth(here, worths), worth(tree, worths))
        self.assertGreater(done, 300)

    def test_none_to_which_exchanges_lead_is_cheaper(self):
        chance = random.Random(178)
        found = 0
        for some, tree, cls in drawn(chance, 120, 4):
            try:
                told = cheapest(some, tree, cls)
            except TooMany:
                continue
            self.assertIs(is_cheapest(some, tree, cls, told), True)
            costs = [thrifty(some, entry[0], cls) for entry in led_to(tree)]
            costs = [cost[0] for cost in costs if cost is not None]
            self.assertEqual(told[0], min(costs, default=None))
            found += told[0] is not None
        self.assertGreater(found, 40)

    def test_put_straight_the_same_just_where_the_worths_are(self):
        chance = random.Random(179)
        for step in range(120):
            one, other = random_tree(chance, 3), random_tree(chance, 3)
            told = apart(one, other)
            self.assertEqual(told is None, straight(one) == straight(other))
            if told is not None:
                self.assertNotEqual(worth(one, told), worth(other, told))

    def test_the_desk_tells_what_the_stages_tell(self):
        chance = random.Random(180)
        for some, tree, cls in drawn(chance, 60, 4):
            desk = Desk()
            self.assertEqual(desk.say("table\n" + shown_table(some)), "ok")
            self.assertEqual(desk.say("tree " + shown(tree)), "ok")
            self.assertEqual(read(desk.say("show")), tree)
            self.assertEqual(read_table(shown_table(some)), some)
            told = desk.say("rows " + cls)
            if told != "none":
                self.assertEqual(desk.say("does " + told).partition(" ")[2], cls + " " + shown(tree))

    def test_webs_and_their_trees_have_one_worth(self):
        chance = random.Random(181)
        for step in range(40):
            web = random_web(chance, 4, 3)
            worths = {one: chance.randrange(-9, 9) for one in ("a", "b", "c", "abcdefgh")}
            for number, found in enumerate(web_worths(web, worths)):
                if opened(web)[number] <= 200:
                    self.assertEqual(worth(plainly_opened(web, number), worths), found)


if __name__ == "__main__":
    unittest.main()
