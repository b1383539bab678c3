"""How the state of a tree comes from its parts' states, and how all states that trees have are found.

Rules tell this for one table (StateRules), for two at once (PairRules) or, in gaps, for sets. All answer alike:
of_leaf tells what a number or a name has; met what a part meets of a sign, all parts that meet the same being alike
to it; come what a sign has whose parts meet this. Beside each of these stands a height: of the leaf; of what is
drawn on the part; of what comes, above what is drawn on the parts.
"""

from rowsmith.errors import TooMany
from rowsmith.shapes import GREATEST, SIGNS, Wiring, is_whole, leaf_prices, prices_of_sums, sign_prices


def as_state(prices):
    """The state and the height of prices: these less the least number, and this."""
    numbers = [price for price in prices if price is not None]
    least = min(numbers) if numbers else 0
    return (tuple([None if price is None else price - least for price in prices]), least)


def is_empty(state):
    """Whether a state is all None."""
    return all([number is None for number in state])


def is_state(thing, columns):
    """Whether a thing has the form of a state for as many columns."""
    if not isinstance(thing, tuple) or len(thing) != columns:
        return False
    return all([number is None or is_whole(number) for number in thing])


class StateRules:
    """The states of trees by one table."""

    def __init__(self, table):
        self.wiring = Wiring(table)
        # Very many parts draw the same together, so what comes of it is kept.
        self.come_before = {}

    def wirings(self):
        """The wiring of each table."""
        return [self.wiring]

    def of_leaf(self, leaf):
        """The state and the height of a number or a name."""
        return as_state(leaf_prices(self.wiring, leaf))

    def of_sign(self, word, states):
        """The state of a sign whose parts have these states, and how much its height is above theirs together."""
        return as_state(sign_prices(self.wiring, word, states))

    def met(self, word, part, state):
        """What each rule of a sign draws on a part, less the least of it, and this."""
        return as_state([state[rule[2][part]] for rule in self.wiring.sign_rules[word]])

    def come(self, word, mets):
        """The state of a sign whose parts meet this, and how much its height is above what is drawn on them."""
        drawn = (mets[0], 0) if len(mets) == 1 else as_state(added(mets[0], mets[1]))
        key = (word, drawn[0])
        if key not in self.come_before:
            self.come_before[key] = as_state(prices_of_sums(self.wiring, word, drawn[0]))
        found = self.come_before[key]
        return (found[0], found[1] + drawn[1])


def added(one, other):
    """Two rows of numbers added, number by number; None where the one or the other has None."""
    return [None if mine is None or yours is None else mine + yours for mine, yours in zip(one, other)]


def beside(mine, yours):
    """Two answers of rules as one: what the one and the other have, and both heights."""
    return ((mine[0], yours[0]), (mine[1], yours[1]))


class PairRules:
    """The states of trees by two tables: all that is told is a tuple of the one's and the other's."""

    def __init__(self, one, other):
        self.one = StateRules(one)
        self.other = StateRules(other)

    def wirings(self):
        """The wiring of each table."""
        return [self.one.wiring, self.other.wiring]

    def of_leaf(self, leaf):
        """The states and the heights of a number or a name."""
        return beside(self.one.of_leaf(leaf), self.other.of_leaf(leaf))

    def of_sign(self, word, pairs):
        """The states of a sign, from its parts' ones, and how much its heights are above theirs together."""
        mine = self.one.of_sign(word, [pair[0] for pair in pairs])
        return beside(mine, self.other.of_sign(word, [pair[1] for pair in pairs]))

    def met(self, word, part, pair):
        """What a part meets of a sign by both tables, and the heights of it."""
        return beside(self.one.met(word, part, pair[0]), self.other.met(word, part, pair[1]))

    def come(self, word, mets):
        """The states of a sign whose parts meet this, and how much its heights are above what is drawn on them."""
        mine = self.one.come(word, [met[0] for met in mets])
        return beside(mine, self.other.come(word, [met[1] for met in mets]))


def all_leaves(wirings):
    """A name, and a number from each stretch in which no pattern of any table tells one from the other."""
    starts = [0]
    for wiring in wirings:
        for column, price, pattern in wiring.leaf_rules:
            if pattern[0] == "from":
                starts.extend([pattern[1], pattern[2] + 1])
    return [("name", "a")] + [("num", start) for start in sorted(set(starts)) if start <= GREATEST]


def is_plain(tree):
    """Whether a tree of a web is a number, a name, or a sign whose parts are pieces."""
    return tree[0] in ("num", "name") or (tree[0] in SIGNS and all([part[0] == "piece" for part in tree[1:]]))


def sign_of(word, numbers):
    """A sign whose parts are pieces of these numbers."""
    return (word,) + tuple([("piece", number) for number in numbers])


def signs_with(rules, seen, word, part, met, number):
    """The signs of a word with what is met in one part, by the tree of this number, and what is seen in the other."""
    if SIGNS[word] == 1:
        return [(rules.come(word, [met])[0], sign_of(word, [number]))]
    found = []
    for other, mate in seen.get((word, 1 - part), {}).items():
        if part == 0:
            found.append((rules.come(word, [met, other])[0], sign_of(word, [number, mate])))
        else:
            found.append((rules.come(word, [other, met])[0], sign_of(word, [mate, number])))
    return found


def new_signs(rules, seen, number, state):
    """The signs with a state as a part, all but those for which an earlier one meets the same there.

    Told as tuples (state, tree). Seen is a dict from (word, part) to dicts from what is met there to the number of
    the first state that meets it; this state, of the told number, is put in.
    """
    found = []
    for word, count in SIGNS.items():
        for part in range(count):
            met = rules.met(word, part, state)[0]
            first = seen.setdefault((word, part), {})
            if met not in first:
                first[met] = number
                found.extend(signs_with(rules, seen, word, part, met, number))
    return found


def all_found(rules, is_room):
    """The states of all trees, a list, and a list of trees of a web that have them.

    Each new state is asked for whether there is room for it, behind so many others; None where there isn't.
    """
    known = {}
    states = []
    web = []
    seen = {}
    told = [(rules.of_leaf(leaf)[0], leaf) for leaf in all_leaves(rules.wirings())]
    done = 0
    while True:
        for state, tree in told:
            if state not in known:
                if not is_room(state, len(states)):
                    return None
                known[state] = True
                states.append(state)
                web.append(tree)
        if done == len(states):
            return (states, web)
        told = new_signs(rules, seen, done, states[done])
        done = done + 1


def found_within(rules, limit, what):
    """The states of all trees and a web's trees that have them; TooMany, saying of what, beyond the limit."""
    found = all_found(rules, lambda state, count: count < limit)
    if found is None:
        raise TooMany(f"more than {limit} {what}")
    return found


def met_by(rules, states):
    """What states meet: a dict from (word, part) to dicts from what is met there to lists of those that meet it.

    Such a one is told as a tuple (number of the state, height).
    """
    found = {}
    for word, count in SIGNS.items():
        for part in range(count):
            here = {}
            for number, state in enumerate(states):
                met = rules.met(word, part, state)
                here.setdefault(met[0], []).append((number, met[1]))
            found[(word, part)] = here
    return found


def joints(meets, word):
    """What the parts of a sign may meet together, a list of tuples."""
    found = [()]
    for part in range(SIGNS[word]):
        longer = []
        for mets in found:
            longer.extend([mets + (met,) for met in meets[(word, part)]])
        found = longer
    return found
