"""Trees, tables and things that several tests need."""

from rowsmith.columns import columns
from rowsmith.errors import NoExchange, NoLine, NoName, NoRow, NoText, NotRight, RowsmithError, TooMany
from rowsmith.labels import labels

MOST = 10 ** 18
REFUSALS = {NoText, NoName, NoRow, NotRight, TooMany, NoExchange, NoLine}


def check_refused(case, kind, ask, *asked, **named):
    """That something is refused with an error of this kind, under no other one's; the error."""
    with case.assertRaises(kind, msg=str(asked)[:500]) as caught:
        ask(*asked, **named)
    case.assertIsInstance(caught.exception, RowsmithError)
    case.assertNotIsInstance(caught.exception, tuple(REFUSALS - {kind}))
    return caught.exception


def num(number):
    return ("num", number)


def name(text):
    return ("name", text)


def turned(tree, times):
    """The turn of the turn .. of a tree."""
    for step in range(times):
        tree = ("turn", tree)
    return tree


def bushy(leaves, word="sum"):
    """A tree of as many leaves, as flat as may be: 2 * leaves - 1 pieces."""
    row = [name("abcdefgh"[k % 8]) for k in range(leaves)]
    while len(row) > 1:
        pairs = [(word, row[k], row[k + 1]) for k in range(0, len(row) - 1, 2)]
        row = pairs + row[len(row) - len(row) % 2:]
    return row[0]


def comb(depth, word="sum"):
    """A tree that is as deep as told, with a leaf at each step: 2 * depth - 1 pieces."""
    tree = name("a")
    for step in range(depth - 1):
        tree = (word, tree, num(step))
    return tree


def random_tree(chance, depth):
    """Some tree, no deeper than told."""
    kind = chance.randrange(6) if depth > 1 else chance.randrange(2)
    if kind == 0:
        return num(chance.choice([0, 1, 7, 9, 10, 255, MOST]))
    if kind == 1:
        return name(chance.choice(["a", "b", "c", "abcdefgh"]))
    if kind == 2:
        return ("turn", random_tree(chance, depth - 1))
    word = ["sum", "less", "by"][kind - 3]
    return (word, random_tree(chance, depth - 1), random_tree(chance, depth - 1))


def table(classes, *tiles):
    """A table of tiles (class, pattern, price), with names told by their numbers."""
    names = ["t" + "abcdefghij"[k // 10] + "abcdefghij"[k % 10] for k in range(len(tiles))]
    return (tuple(classes), tuple((names[k], tile[0], tile[1], tile[2]) for k, tile in enumerate(tiles)))


# Class r: 0 any, 1 small numbers, 2 sum of two, 3 turn, 4 sum of a product and a number; m: 5 a product; passes 6, 7.
PLAIN = table("rm", ("r", ("any",), 2), ("r", ("from", 0, 9), 1), ("r", ("sum", ("at", "r"), ("at", "r")), 3),
              ("r", ("turn", ("at", "r")), 4), ("r", ("sum", ("by", ("at", "r"), ("at", "m")), ("from", 5, 7)), 6),
              ("m", ("by", ("at", "r"), ("at", "r")), 5), ("r", ("at", "m"), 1), ("m", ("at", "r"), 10))

# Things of all kinds that are neither a tree nor a table nor a cover nor a paper, whatever these are of.
ODD_THINGS = [
    None, True, False, 0, 1, -1, 10 ** 59, "", "a", "num", "turn", (), [], (None,), [None], ((),), ([],), (True,),
    ("num",), ("turn",), ("sum",), ("at",), ["num", 1], [("num", 1)], [[]], [()], ((), ()), ([], []), (1, 2, 3),
    (None, None), ("a", "b", "c", "d"), [0, [0]], [((), None)], [((), ())], [(0, (0,))],
]


def deep_thing(depth, kind=tuple):
    """A thing in which as many are within one another."""
    thing = kind()
    for step in range(depth - 1):
        thing = kind([thing])
    return thing


def plainly_lies(pattern, tree):
    """Whether a pattern lies on a tree, by the words of the document."""
    if pattern[0] == "at":
        return True
    if pattern == ("any",):
        return tree[0] == "name"
    if pattern[0] == "from":
        return tree[0] == "num" and tree[1] in range(pattern[1], pattern[2] + 1)
    if tree[0] != pattern[0] or len(tree) != len(pattern):
        return False
    return all(plainly_lies(pattern[k], tree[k]) for k in range(1, len(pattern)))


def plain_holes(pattern, tree):
    """The holes of a pattern that lies on a tree, hole by hole: (place, class, tree there)."""
    if pattern[0] == "at":
        return [((), pattern[1], tree)]
    found = []
    if pattern[0] not in ("any", "from"):
        for k in range(1, len(pattern)):
            found += [((k - 1,) + place, cls, part) for place, cls, part in plain_holes(pattern[k], tree[k])]
    return found


def plain_covers(the_table, tree, cls, passed=()):
    """All covers, by the words of the document; slow."""
    found = []
    for number, tile in enumerate(the_table[1]):
        if tile[1] != cls or cls in passed or not plainly_lies(tile[2], tree):
            continue
        begun = [[number]]
        for place, kind, part in plain_holes(tile[2], tree):
            ahead = passed + (cls,) if tile[2][0] == "at" else ()
            begun = [one + other for one in begun for other in plain_covers(the_table, part, kind, ahead)]
        found += begun
    return found


def plain_bounds(the_table, tree, paper):
    """What a paper has to hold against: for each tile that lies somewhere and whose holes all have something there
    a tuple of what the paper has for its class, its price, and what it has for the holes."""
    told = dict(paper)
    found = []
    for place in told:
        here = tree
        for number in place:
            here = here[1 + number]
        for title, cls, pattern, cost in the_table[1]:
            if plainly_lies(pattern, here):
                below = [told[place + spot][the_table[0].index(kind)] for spot, kind, part in plain_holes(pattern, here)]
                if None not in below:
                    found.append((told[place][the_table[0].index(cls)], cost, below))
    return found


def random_pattern(chance, classes, depth):
    """Some pattern, no deeper than told."""
    kind = chance.randrange(8) if depth > 1 else chance.randrange(4)
    if kind < 2:
        return ("at", chance.choice(classes))
    if kind == 2:
        return ("any",)
    if kind == 3:
        return chance.choice([("from", 0, 1), ("from", 1, 7), ("from", 7, 9), ("from", 0, MOST), ("from", 255, MOST)])
    if kind == 4:
        return ("turn", random_pattern(chance, classes, depth - 1))
    return (("sum", "less", "by")[kind - 5], random_pattern(chance, classes, depth - 1),
            random_pattern(chance, classes, depth - 1))


def random_table(chance, tiles):
    """Some table of one to three classes, most trees of which have covers."""
    classes = "abc"[:chance.randrange(1, 4)]
    found = [(chance.choice(classes), ("any",), 2), (chance.choice(classes), ("from", 0, MOST), 3)]
    for word in ("turn", "sum", "less", "by"):
        holes = [("at", chance.choice(classes)) for k in range(1 if word == "turn" else 2)]
        found.append((chance.choice(classes), (word,) + tuple(holes), chance.randrange(4)))
    while len(found) < tiles:
        tile = (chance.choice(classes), random_pattern(chance, classes, 3), chance.randrange(6))
        if tile[1] != ("at", tile[0]):
            found.append(tile)
    return table(classes, *found)


def piece(number):
    return ("piece", number)


def plainly_opened(web, number):
    """A tree of a web with each piece's tree in its place."""
    def open_all(tree):
        if tree[0] == "piece":
            return plainly_opened(web, tree[1])
        if tree[0] in ("num", "name"):
            return tree
        return (tree[0],) + tuple(open_all(part) for part in tree[1:])
    return open_all(web[number])


def with_pieces(chance, tree, number):
    """A tree in which some parts are pieces of earlier trees than the one of this number."""
    if number > 0 and chance.randrange(4) == 0:
        return piece(chance.randrange(number))
    if tree[0] in ("num", "name"):
        return tree
    return (tree[0],) + tuple(with_pieces(chance, part, number) for part in tree[1:])


def random_web(chance, trees, depth):
    """Some web of as many trees, none deeper than told by itself."""
    return tuple(with_pieces(chance, random_tree(chance, depth), number) for number in range(trees))


def bare_table(chance, tiles):
    """Some table of one to three classes, by which many trees have no cover."""
    classes = "abc"[:chance.randrange(1, 4)]
    found = []
    while len(found) < tiles:
        tile = (chance.choice(classes), random_pattern(chance, classes, chance.randrange(1, 4)), chance.randrange(6))
        if tile[1] != ("at", tile[0]):
            found.append(tile)
    return table(classes, *found)


def plain_cost(the_table, tree, cls, had, passed=()):
    """The least price of a tree for a class, by the words of the document; had tells what each piece has."""
    costs = [had[tree[1]][the_table[0].index(cls)]] if tree[0] == "piece" else []
    for tile in the_table[1]:
        if tile[1] == cls and cls not in passed and plainly_lies(tile[2], tree):
            ahead = passed + (cls,) if tile[2][0] == "at" else ()
            below = [plain_cost(the_table, part, kind, had, ahead) for place, kind, part in plain_holes(tile[2], tree)]
            costs.append(None if None in below else tile[3] + sum(below))
    return min([cost for cost in costs if cost is not None], default=None)


def trees_of(pieces, leaves):
    """All trees of just as many pieces, with these leaves."""
    found = list(leaves) if pieces == 1 else []
    if pieces > 1:
        found += [("turn", part) for part in trees_of(pieces - 1, leaves)]
    for first in range(1, pieces - 1):
        for one in trees_of(first, leaves):
            found += [(word, one, other) for word in ("sum", "less", "by")
                      for other in trees_of(pieces - 1 - first, leaves)]
    return found


def leaves_for(*tables):
    """A name, and the numbers at both ends of each stretch and one beyond them."""
    numbers = {0, MOST}
    for some in tables:
        for column in columns(some) + [tile[2] for tile in some[1]]:
            if column[0] == "from":
                numbers |= {column[1] - 1, column[1], column[2], column[2] + 1}
    return [name("a")] + [num(number) for number in sorted(numbers) if 0 <= number <= MOST]


def plain_prices(some, tree):
    """A tree's prices for all columns, reckoned by labels."""
    at = dict(labels(some, tree))
    found = list(at[()])
    for part in columns(some)[len(some[0]):]:
        costs = [None]
        if plainly_lies(part, tree):
            costs = [at[place][some[0].index(cls)] for place, cls, below in plain_holes(part, tree)]
        found.append(None if None in costs else sum(costs))
    return tuple(found)


def plain_state(some, tree):
    """The state of a tree and its height, reckoned by labels."""
    found = plain_prices(some, tree)
    least = min([number for number in found if number is not None], default=0)
    return tuple(None if number is None else number - least for number in found), least


def with_prices(some, **prices):
    """A table in which the tiles of these names have other prices."""
    return some[0], tuple(tile[:3] + (prices.get(tile[0], tile[3]),) for tile in some[1])


def changed_whole(tree, word):
    """What an exchange at the whole makes of a tree, by the words of the document; None where it can't be done."""
    sign, inner = tree[0], [part[0] for part in tree[1:] if isinstance(part, tuple)]
    if word == "swap" and sign in ("sum", "by"):
        return sign, tree[2], tree[1]
    if word == "right" and sign in ("sum", "by") and inner[0] == sign:
        (_, first, second), third = tree[1:]
        return sign, first, (sign, second, third)
    if word == "left" and sign in ("sum", "by") and inner[1] == sign:
        first, (_, second, third) = tree[1:]
        return sign, (sign, first, second), third
    if word == "open" and sign == "less":
        return "sum", tree[1], ("turn", tree[2])
    if word == "shut" and sign == "sum" and inner[1] == "turn":
        return "less", tree[1], tree[2][1]
    if word == "off" and sign == "turn" and inner[0] == "turn":
        return tree[1][1]
    return None


def plain_changed(tree, word, place):
    """What an exchange makes of a tree; None where it can't be done."""
    if not place:
        return changed_whole(tree, word)
    part = plain_changed(tree[1 + place[0]], word, place[1:])
    return None if part is None else tree[:1 + place[0]] + (part,) + tree[2 + place[0]:]
