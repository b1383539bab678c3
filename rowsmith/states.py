"""The prices of trees for a table's columns, the states of all trees, and webs gone through by these."""

from rowsmith.shapes import Wiring, leaf_prices, reckoned_web, sign_prices
from rowsmith.steps import StateRules, all_found, as_state, found_within, is_plain, is_state
from rowsmith.webs import is_web


def prices(table, web):
    """The prices of a web's trees, opened: for each a tuple with a number or None for each column."""
    wiring = Wiring(table)
    found = reckoned_web(web, lambda leaf: leaf_prices(wiring, leaf),
                         lambda word, parts: sign_prices(wiring, word, parts))
    return [tuple(numbers) for numbers in found]


def all_states(table, limit=200):
    """A web and the list of its trees' states, which are those of all trees; TooMany where there are more."""
    found = found_within(StateRules(table), limit, "states")
    return (tuple(found[1]), found[0])


def are_states(table, thing):
    """Whether a thing is right as what all_states tells."""
    if not isinstance(thing, tuple) or len(thing) != 2 or not is_web(thing[0]) or not isinstance(thing[1], list):
        return False
    rules = StateRules(table)
    states = thing[1]
    if not all([is_plain(tree) for tree in thing[0]]):
        return False
    if not all([is_state(state, len(rules.wiring.columns)) for state in states]):
        return False
    told = dict([(state, True) for state in states])
    if len(told) != len(states) or states != [as_state(numbers)[0] for numbers in prices(table, thing[0])]:
        return False
    return all_found(rules, lambda state, count: state in told) is not None


class Walk:
    """A walk through trees by a list of states: each sign with parts of these states is reckoned once."""

    def __init__(self, table, states):
        self.rules = StateRules(table)
        self.states = list(states)
        self.numbers = dict([(state, number) for number, state in enumerate(states)])
        # Where all is None the height is 0, whatever the parts' heights are.
        self.empty = self.numbers.get(tuple([None] * len(self.rules.wiring.columns)))
        self.steps_before = {}

    def at_leaf(self, leaf):
        """The number of a leaf's state, and its height."""
        if leaf not in self.steps_before:
            found = self.rules.of_leaf(leaf)
            self.steps_before[leaf] = (self.numbers[found[0]], found[1])
        return self.steps_before[leaf]

    def at_sign(self, word, parts):
        """The number of a sign's state, and its height, from those of its parts."""
        key = (word,) + tuple([number for number, height in parts])
        if key not in self.steps_before:
            found = self.rules.of_sign(word, [self.states[number] for number, height in parts])
            self.steps_before[key] = (self.numbers[found[0]], found[1])
        step = self.steps_before[key]
        if step[0] == self.empty:
            return step
        return (step[0], step[1] + sum([height for number, height in parts]))


def walked(table, states, web):
    """For each tree of a web the number of its state in a right list of states, and its height."""
    walk = Walk(table, states)
    return reckoned_web(web, lambda leaf: walk.at_leaf(leaf), lambda word, parts: walk.at_sign(word, parts))
