"""How much dearer one table can come than another.

A pair is the tuple of both states of a tree; pairs are told by their numbers. A value of a pair is a difference of
heights, the one's less the other's, that a tree with this pair has.
"""

from rowsmith.shapes import SIGNS, parts_of
from rowsmith.steps import PairRules, all_leaves, found_within, joints, met_by, sign_of


def difference(heights):
    """The one's less the other's."""
    return heights[0] - heights[1]


def signs_to(rules, pairs, meets):
    """By which signs a pair comes: for each, by number, a list of tuples (word, mets, gain).

    Its parts meet mets; gain is how much the difference is above that of what is drawn on the parts.
    """
    numbers = dict([(pair, number) for number, pair in enumerate(pairs)])
    found = [[] for pair in pairs]
    for word in SIGNS:
        for mets in joints(meets, word):
            come = rules.come(word, mets)
            found[numbers[come[0]]].append((word, mets, difference(come[1])))
    return found


def ways_on(signs, meets, ends):
    """How pairs lead on to an end: a dict from those that do, None for an end itself, else (tree, part, number).

    The tree has the pair in this part, and has the pair of this number itself.
    """
    found = dict([(end, None) for end in ends])
    waiting = list(ends)
    asked = {}
    done = 0
    while done < len(waiting):
        number = waiting[done]
        done = done + 1
        for word, mets, gain in signs[number]:
            first = [meets[(word, part)][met][0][0] for part, met in enumerate(mets)]
            for part, met in enumerate(mets):
                if (word, part, met) in asked:
                    continue
                asked[(word, part, met)] = True
                for below, height in meets[(word, part)][met]:
                    if below not in found:
                        found[below] = (sign_of(word, first[:part] + [below] + first[part + 1:]), part, number)
                        waiting.append(below)
    return found


class Climb:
    """The greatest values of pairs that lead on to an end, and trees that have them.

    A tree's pieces are numbers of pairs and stand for these pairs' trees. No tree stands, in however many steps, in
    itself; as soon as one would, which has a greater value then, there is a ring.
    """

    def __init__(self, rules, pairs, web, meets, signs, ways):
        self.meets = meets
        self.greatest = {}
        self.trees = {}
        for number in sorted(ways):
            self.trees[number] = web[number]
            self.greatest[number] = self.first_value(rules, pairs, web[number])
        self.signs = dict([(word, []) for word in SIGNS])
        for number in ways:
            for word, mets, gain in signs[number]:
                self.signs[word].append((number, mets, gain))
        self.climb_by_leaves(rules, pairs)
        self.ring = None

    def first_value(self, rules, pairs, tree):
        """The value of a tree whose pieces have values already."""
        numbers = [piece[1] for piece in parts_of(tree)]
        if not numbers:
            return difference(rules.of_leaf(tree)[1])
        come = rules.of_sign(tree[0], [pairs[number] for number in numbers])
        return difference(come[1]) + sum([self.greatest[number] for number in numbers])

    def climb_by_leaves(self, rules, pairs):
        """Raise the values by all numbers and names: several may have one pair, but not one value."""
        for leaf in all_leaves(rules.wirings()):
            found = rules.of_leaf(leaf)
            number = pairs.index(found[0])
            if number in self.greatest and difference(found[1]) > self.greatest[number]:
                self.greatest[number] = difference(found[1])
                self.trees[number] = leaf

    def best_parts(self, word):
        """For each part of a sign and all that it may meet there the greatest value drawn, with the pair's number."""
        found = []
        for part in range(SIGNS[word]):
            here = {}
            for met, those in self.meets[(word, part)].items():
                drawn = [(self.greatest[number] + difference(heights), number) for number, heights in those
                         if number in self.greatest]
                if drawn:
                    here[met] = max(drawn)
            found.append(here)
        return found

    def climb(self):
        """Raise the values until none rises any more, or there is a ring."""
        raised = True
        while raised:
            raised = False
            for word in SIGNS:
                if self.ring is None and self.climb_by(word):
                    raised = True

    def climb_by(self, word):
        """Raise the values by the signs of a word, once; whether one rose."""
        best = self.best_parts(word)
        raised = False
        for number, mets, gain in self.signs[word]:
            parts = [best[part][met] for part, met in enumerate(mets)]
            value = gain + sum([drawn for drawn, below in parts])
            if value > self.greatest[number]:
                tree = sign_of(word, [below for drawn, below in parts])
                way = way_up(self.trees, tree, number)
                if way:
                    self.ring = (number, way)
                    return False
                self.greatest[number] = value
                self.trees[number] = tree
                raised = True
        return raised


def way_up(trees, top, number):
    """The steps from a pair up to a tree that holds it, from within: tuples (tree, part); [] where it doesn't."""
    above = {}
    waiting = [(None, top)]
    while waiting:
        here = waiting.pop()
        for part, piece in enumerate(parts_of(here[1])):
            if piece[1] not in above:
                above[piece[1]] = (here[0], here[1], part)
                waiting.append((piece[1], trees[piece[1]]))
    found = []
    at = number
    while at in above:
        step = above[at]
        found.append((step[1], step[2]))
        at = step[0]
    return found


class Spread:
    """A web that is spread out of the trees of pairs."""

    def __init__(self, trees):
        self.trees = trees
        self.web = []
        self.spots = {}

    def spot(self, number):
        """Where a pair's tree stands; it is put in, behind those that it holds, where it doesn't stand yet."""
        waiting = [number]
        while waiting:
            at = waiting[-1]
            missing = [piece[1] for piece in parts_of(self.trees[at]) if piece[1] not in self.spots]
            if at in self.spots:
                waiting.pop()
            elif missing:
                waiting.extend(missing)
            else:
                self.spots[at] = self.put(self.trees[at], None, None)
        return self.spots[number]

    def put(self, tree, at, below):
        """Put in a tree, one part of which, if told, is the tree that stands below; where it stands."""
        pieces = parts_of(tree)
        if pieces:
            spots = [below if part == at else self.spot(piece[1]) for part, piece in enumerate(pieces)]
            self.web.append(sign_of(tree[0], spots))
        else:
            self.web.append(tree)
        return len(self.web) - 1


def within_told(climb, pairs, ends, ahead):
    """The answer where the difference is bound; ahead is how much it is above the value, at each end."""
    most = max([climb.greatest[end] + ahead[end] for end in ends])
    reach = [end for end in ends if climb.greatest[end] + ahead[end] == most]
    spread = Spread(climb.trees)
    spread.spot(reach[0])
    told = [(pair[0], pair[1], climb.greatest.get(number)) for number, pair in enumerate(pairs)]
    return ("within", most, tuple(spread.web), told)


def grows_told(climb, ways):
    """The answer where there is a ring.

    The ring's lower tree is put in for itself, and so is all between it and the upper one: so it stands there once,
    though its pair may stand elsewhere, too.
    """
    number = climb.ring[0]
    spread = Spread(climb.trees)
    low = spread.put(climb.trees[number], None, None)
    high = low
    for tree, part in climb.ring[1]:
        high = spread.put(tree, part, high)
    last = high
    way = ways[number]
    while way is not None:
        last = spread.put(way[0], way[1], last)
        way = ways[way[2]]
    return ("grows", tuple(spread.web), low, high)


def against(one, cls, other, kind, limit=200):
    """How much dearer the one table can come, for a class, than the other one for its class; TooMany."""
    rules = PairRules(one, other)
    # Each state of the one or the other stands in some pair: where they are too many, so are the pairs.
    found = found_within(rules, limit, "pairs of states")
    pairs = found[0]
    mine = one[0].index(cls)
    yours = other[0].index(kind)
    ends = [number for number, pair in enumerate(pairs) if pair[1][yours] is not None]
    if not ends:
        return ("none",)
    lacking = [number for number in ends if pairs[number][0][mine] is None]
    if lacking:
        return ("lacks", tuple(found[1][:lacking[0] + 1]))
    meets = met_by(rules, pairs)
    signs = signs_to(rules, pairs, meets)
    ways = ways_on(signs, meets, ends)
    climb = Climb(rules, pairs, found[1], meets, signs, ways)
    climb.climb()
    if climb.ring is not None:
        return grows_told(climb, ways)
    ahead = dict([(end, pairs[end][0][mine] - pairs[end][1][yours]) for end in ends])
    return within_told(climb, pairs, ends, ahead)
