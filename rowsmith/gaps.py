"""The sets of all trees, and trees without a cover.

Within this file a set is a whole number, bit k of which tells whether the tree has column k; so is what a set meets
of a sign's rules, bit k for rule k.
"""

from rowsmith.errors import TooMany
from rowsmith.shapes import SIGNS, Wiring, is_whole, lies_on_leaf, reckoned_web
from rowsmith.steps import all_leaves, is_plain, new_signs
from rowsmith.webs import is_web, opened


def first_bits(count):
    """The first bits, as numbers, a list."""
    found = [1]
    while len(found) < count:
        found.append(found[-1] * 2)
    return found


class SetRules:
    """By which rules the set of a tree comes from the sets of its parts; the heights that it tells are all 0.

    Many parts' sets meet the same rules, and many signs come to the same set; what has been found once is kept.
    """

    def __init__(self, table):
        self.wiring = Wiring(table)
        self.bits = first_bits(len(self.wiring.columns))
        self.draws = {}
        self.gives = {}
        self.every = {}
        for word in SIGNS:
            self.wire(word)
        self.met_before = {}
        self.come_before = {}

    def wire(self, word):
        """Take in a sign's rules: by part the bits (column drawn on, rule), the bits (rule, column given), and all."""
        rules = self.wiring.sign_rules[word]
        marks = first_bits(len(rules))
        self.every[word] = sum(marks)
        self.gives[word] = [(mark, self.bits[rule[0]]) for mark, rule in zip(marks, rules)]
        for part in range(SIGNS[word]):
            self.draws[(word, part)] = [(self.bits[rule[2][part]], mark) for mark, rule in zip(marks, rules)]

    def with_passes(self, truths):
        """A set with the classes to which passes lead."""
        found = truths
        for ahead, to, price in self.wiring.leads:
            if truths & self.bits[ahead]:
                found = found | self.bits[to]
        return found

    def of_leaf(self, leaf):
        """The set of a number or a name."""
        found = 0
        for column, price, pattern in self.wiring.leaf_rules:
            if lies_on_leaf(pattern, leaf):
                found = found | self.bits[column]
        return (self.with_passes(found), 0)

    def met(self, word, part, truths):
        """The rules of a sign that a part with this set meets."""
        key = (word, part, truths)
        if key not in self.met_before:
            marks = [mark for column, mark in self.draws[(word, part)] if truths & column]
            self.met_before[key] = sum(marks)
        return (self.met_before[key], 0)

    def come(self, word, mets):
        """The set of a sign whose parts meet these rules."""
        met = self.every[word]
        for rules in mets:
            met = met & rules
        key = (word, met)
        if key not in self.come_before:
            found = 0
            for mark, column in self.gives[word]:
                if met & mark:
                    found = found | column
            self.come_before[key] = self.with_passes(found)
        return (self.come_before[key], 0)


def grown(rules, limit):
    """The sets of all trees, as tuples (set, tree of a web, pieces), by rising pieces; TooMany beyond the limit.

    The tree is one of the fewest pieces, opened, that have the set: each set is taken when no sign of sets not yet
    taken could come to it with fewer.
    """
    waiting = {}
    for leaf in all_leaves([rules.wiring]):
        waiting.setdefault(rules.of_leaf(leaf)[0], (leaf, 1))
    taken = {}
    sizes = []
    seen = {}
    while waiting:
        if len(taken) + len(waiting) > limit:
            raise TooMany(f"more than {limit} sets")
        truths = min(waiting, key=lambda one: waiting[one][1])
        taken[truths] = waiting.pop(truths)
        sizes.append(taken[truths][1])
        for come, tree in new_signs(rules, seen, len(sizes) - 1, truths):
            size = 1 + sum([sizes[piece[1]] for piece in tree[1:]])
            if come not in taken and (come not in waiting or size < waiting[come][1]):
                waiting[come] = (tree, size)
    return [(truths,) + told for truths, told in taken.items()]


def as_tuple(rules, truths):
    """A set as it is told, a tuple of truths."""
    return tuple([(truths & bit) != 0 for bit in rules.bits])


def all_sets(table, limit=200):
    """A web and the list of its trees' sets, which are those of all trees; TooMany where there are more."""
    rules = SetRules(table)
    found = grown(rules, limit)
    return (tuple([tree for truths, tree, size in found]), [as_tuple(rules, truths) for truths, tree, size in found])


def gap(table, cls, limit=200):
    """("all", web, sets) where each tree has a cover for a class, else ("lacks", web, sizes); TooMany as all sets."""
    rules = SetRules(table)
    found = grown(rules, limit)
    web = tuple([tree for truths, tree, size in found])
    bit = rules.bits[table[0].index(cls)]
    lacking = [number for number, told in enumerate(found) if not told[0] & bit]
    if not lacking:
        return ("all", web, [as_tuple(rules, truths) for truths, tree, size in found])
    return ("lacks", web[:lacking[0] + 1], [(as_tuple(rules, truths), size) for truths, tree, size in found])


def is_set(thing, rules):
    """Whether a thing has the form of a set as it is told."""
    if not isinstance(thing, tuple) or len(thing) != len(rules.bits):
        return False
    return all([isinstance(truth, bool) for truth in thing])


def from_tuple(rules, truths):
    """A set from the tuple of truths by which it is told."""
    return sum([bit for bit, truth in zip(rules.bits, truths) if truth])


def web_sets(rules, web):
    """The sets of a web's trees, opened."""
    return reckoned_web(web, lambda leaf: rules.of_leaf(leaf)[0], lambda word, parts: sign_set(rules, word, parts))


def sign_set(rules, word, parts):
    """The set of a sign, from its parts' sets."""
    return rules.come(word, [rules.met(word, part, truths)[0] for part, truths in enumerate(parts)])[0]


def least_met(rules, word, part, numbers):
    """What sets meet of a sign's rules in a part, each with the least number of a set that meets it."""
    found = {}
    for truths, number in numbers.items():
        met = rules.met(word, part, truths)[0]
        found[met] = min(number, found.get(met, number))
    return found


def least_sums(rules, numbers):
    """For each set to which a sign with parts of the told sets comes, the least sum of the parts' numbers."""
    found = {}
    for word, count in SIGNS.items():
        sums = {rules.every[word]: 0}
        for part in range(count):
            sums = joined(sums, least_met(rules, word, part, numbers))
        for met, number in sums.items():
            come = rules.come(word, [met])[0]
            found[come] = min(number, found.get(come, number))
    return found


def joined(one, other):
    """What parts meet together, with the least sum of a number of the one and a number of the other."""
    found = {}
    for met, number in one.items():
        for more, added in other.items():
            both = met & more
            if both not in found or number + added < found[both]:
                found[both] = number + added
    return found


def are_closed(rules, truths):
    """Whether each number, each name and each sign with parts of the told sets has one of them."""
    numbers = dict([(one, 0) for one in truths])
    if not all([rules.of_leaf(leaf)[0] in numbers for leaf in all_leaves([rules.wiring])]):
        return False
    return all([come in numbers for come in least_sums(rules, numbers)])


def are_sets_by(rules, web, sets):
    """Whether these are a web and a list of sets as all_sets tells them."""
    if not is_web(web) or not all([is_plain(tree) for tree in web]) or not isinstance(sets, list):
        return False
    if len(sets) != len(web) or not all([is_set(one, rules) for one in sets]):
        return False
    truths = web_sets(rules, web)
    if [from_tuple(rules, one) for one in sets] != truths or len(set(truths)) != len(truths):
        return False
    return are_closed(rules, truths)


def are_sets(table, thing):
    """Whether a thing is right as what all_sets tells."""
    if not isinstance(thing, tuple) or len(thing) != 2:
        return False
    return are_sets_by(SetRules(table), thing[0], thing[1])


def are_sizes(rules, thing):
    """Whether a thing is a list of tuples (set, number), one for each set that a tree has, the numbers from 1 on."""
    if not isinstance(thing, list) or not all([isinstance(entry, tuple) and len(entry) == 2 for entry in thing]):
        return False
    if not all([is_set(truths, rules) and is_whole(number) and number >= 1 for truths, number in thing]):
        return False
    told = [from_tuple(rules, truths) for truths, number in thing]
    try:
        found = grown(rules, len(told))
    except TooMany:
        return False
    return sorted(told) == sorted([entry[0] for entry in found])


def bear_out(rules, numbers):
    """Whether the numbers of all sets are no more than trees that have them must have pieces."""
    if any([numbers[rules.of_leaf(leaf)[0]] != 1 for leaf in all_leaves([rules.wiring])]):
        return False
    return all([numbers[come] <= 1 + total for come, total in least_sums(rules, numbers).items()])


def is_lack(rules, bit, web, sizes):
    """Whether a web's last tree lacks the class of a bit, and sizes bear out that no smaller tree does."""
    if not is_web(web) or not are_sizes(rules, sizes) or web_sets(rules, web)[-1] & bit:
        return False
    numbers = dict([(from_tuple(rules, truths), number) for truths, number in sizes])
    lacking = [number for truths, number in numbers.items() if not truths & bit]
    return bear_out(rules, numbers) and opened(web)[-1] <= min(lacking)


def is_gap(table, cls, thing):
    """Whether a thing is right as what gap tells."""
    if not isinstance(thing, tuple) or len(thing) != 3:
        return False
    rules = SetRules(table)
    bit = rules.bits[table[0].index(cls)]
    if thing[0] == "all":
        return are_sets_by(rules, thing[1], thing[2]) and all([truths & bit for truths in web_sets(rules, thing[1])])
    return thing[0] == "lacks" and is_lack(rules, bit, thing[1], thing[2])
