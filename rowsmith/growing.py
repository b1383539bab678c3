"""Whether a thing is right as what against tells of two tables: pairs that bear out a bound, rings that grow."""

from rowsmith.shapes import SIGNS, Wiring, is_whole, reckoned
from rowsmith.states import prices
from rowsmith.steps import PairRules, all_found, all_leaves, as_state, is_empty, is_state, joints, met_by
from rowsmith.webs import is_web


def reached_columns(wiring):
    """The columns for which some tree has a price, keys of a dict."""
    found = dict([(column, True) for column, price, pattern in wiring.leaf_rules])
    ways = [([ahead], to) for ahead, to, price in wiring.leads]
    for word in SIGNS:
        ways.extend([(draws, column) for column, price, draws in wiring.sign_rules[word]])
    count = -1
    while count < len(found):
        count = len(found)
        for draws, column in ways:
            # Parts are trees by themselves, so each column may be drawn on where some tree has it.
            if all([draw in found for draw in draws]):
                found[column] = True
    return found


class Both:
    """Two tables, and the numbers of a class of each."""

    def __init__(self, one, cls, other, kind):
        self.tables = (one, other)
        self.spots = (one[0].index(cls), other[0].index(kind))

    def web_prices(self, web):
        """The prices of a web's trees, by the one table and by the other."""
        return [prices(table, web) for table in self.tables]

    def for_classes(self, pair):
        """What two rows of prices, or two states, have for the one's class and for the other's."""
        return [numbers[spot] for numbers, spot in zip(pair, self.spots)]

    def of_last(self, found):
        """The least prices of a web's last tree for both classes, from the prices of all its trees."""
        return self.for_classes([rows[-1] for rows in found])


def is_none(both):
    """Whether no tree has a cover for the other one's class."""
    return both.spots[1] not in reached_columns(Wiring(both.tables[1]))


def is_lack(both, web):
    """Whether a web's last tree has a cover for the other one's class, but none for the one's."""
    if not is_web(web):
        return False
    last = both.of_last(both.web_prices(web))
    return last[0] is None and last[1] is not None


def pairs_told(both, thing):
    """A dict from pairs of states to numbers, from a list of them; None where it hasn't its form, or doubles one."""
    if not isinstance(thing, list) or not all([isinstance(entry, tuple) and len(entry) == 3 for entry in thing]):
        return None
    widths = [len(Wiring(table).columns) for table in both.tables]
    found = {}
    for mine, yours, number in thing:
        if not is_state(mine, widths[0]) or not is_state(yours, widths[1]):
            return None
        if number is not None and not is_whole(number):
            return None
        found[(mine, yours)] = number
    return found if len(found) == len(thing) else None


def ends_hold(both, told, most):
    """Whether no end, a pair with a number for the other one's class, lacks a number or comes to more than most."""
    for pair, number in told.items():
        numbers = both.for_classes(pair)
        if numbers[1] is not None:
            if numbers[0] is None or number is None or number + numbers[0] - numbers[1] > most:
                return False
    return True


def leaves_hold(rules, told):
    """Whether no number and no name has a greater difference of heights than its pair's number."""
    for leaf in all_leaves(rules.wirings()):
        found = rules.of_leaf(leaf)
        number = told[found[0]]
        if number is not None and number < found[1][0] - found[1][1]:
            return False
    return True


class Drawn:
    """What is drawn, at most, on parts with told pairs."""

    def __init__(self, rules, told):
        self.told = list(told.values())
        self.meets = met_by(rules, list(told))
        self.most_before = {}

    def most_drawn(self, word, part, met, counts):
        """The greatest number that is drawn on a part that meets this; None where such a part's pair has None.

        Counts tell how often the one's height and the other's are counted: once, or not at all.
        """
        key = (word, part, met, counts)
        if key not in self.most_before:
            self.most_before[key] = self.most_of(self.meets[(word, part)][met], counts)
        return self.most_before[key]

    def most_of(self, those, counts):
        """The greatest number that is drawn on one of those that meet the same; None where one has None."""
        if None in [self.told[number] for number, heights in those]:
            return None
        return max([self.told[number] + counted(heights, counts) for number, heights in those])


def counted(heights, counts):
    """The one's height less the other's, each as often as told."""
    return heights[0] * counts[0] - heights[1] * counts[1]


def signs_hold(rules, told):
    """Whether each sign with parts of told pairs comes to None, or to a number that is not below what is drawn."""
    drawn = Drawn(rules, told)
    for word in SIGNS:
        for mets in joints(drawn.meets, word):
            come = rules.come(word, mets)
            number = told[come[0]]
            if number is None:
                continue
            # A state that is all None has the height 0, whatever its parts' heights are: it gains nothing.
            counts = tuple([0 if is_empty(state) else 1 for state in come[0]])
            parts = [drawn.most_drawn(word, part, met, counts) for part, met in enumerate(mets)]
            if None in parts or number < sum(parts) + counted(come[1], counts):
                return False
    return True


def is_within(both, most, web, thing):
    """Whether a web's last tree has the difference most, and told pairs bear out that none has more."""
    if not is_whole(most) or not is_web(web):
        return False
    last = both.of_last(both.web_prices(web))
    told = pairs_told(both, thing)
    if None in last or last[0] - last[1] != most or told is None:
        return False
    rules = PairRules(both.tables[0], both.tables[1])
    found = all_found(rules, lambda pair, count: pair in told)
    if found is None or len(found[0]) != len(told):
        return False
    return ends_hold(both, told, most) and leaves_hold(rules, told) and signs_hold(rules, told)


def times_in(leaf, number, counts):
    """How often a leaf of a web's tree, opened but for the tree of a number, has this one."""
    if leaf[0] != "piece":
        return 0
    return 1 if leaf[1] == number else counts[leaf[1]]


def how_often(web, root, number):
    """How often the tree root of a web, opened but for the tree of a number, has this one."""
    counts = []
    for tree in web[:root + 1]:
        counts.append(reckoned(tree, lambda leaf: times_in(leaf, number, counts), lambda word, parts: sum(parts)))
    return counts[root]


def is_ring(both, web, low, high):
    """Whether the trees low and high of a web are a ring that makes the last tree's difference grow."""
    if not is_web(web) or not is_whole(low) or not is_whole(high) or not 0 <= low < high < len(web):
        return False
    found = both.web_prices(web)
    if None in both.of_last(found):
        return False
    lower = [as_state(rows[low]) for rows in found]
    upper = [as_state(rows[high]) for rows in found]
    gains = [top[1] - bottom[1] for top, bottom in zip(upper, lower)]
    if [state for state, height in lower] != [state for state, height in upper] or gains[0] <= gains[1]:
        return False
    last = len(web) - 1
    return how_often(web, high, low) == 1 and (high == last or how_often(web, last, high) == 1)


def is_against(one, cls, other, kind, thing):
    """Whether a thing is right as one of the four that against tells."""
    if not isinstance(thing, tuple) or len(thing) == 0:
        return False
    both = Both(one, cls, other, kind)
    if thing[0] == "none":
        return len(thing) == 1 and is_none(both)
    if thing[0] == "lacks":
        return len(thing) == 2 and is_lack(both, thing[1])
    if thing[0] == "within":
        return len(thing) == 4 and is_within(both, thing[1], thing[2], thing[3])
    return thing[0] == "grows" and len(thing) == 4 and is_ring(both, thing[1], thing[2], thing[3])
