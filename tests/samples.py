"""Trees, tables and things that several tests need."""

MOST = 10 ** 18


def num(number):
    return ("num", number)


def name(text):
    return ("name", text)


def turned(tree, times):
    """The turn of the turn .. of a tree."""
    for step in range(times):
        tree = ("turn", tree)
    return tree


def bushy(leaves, word="sum"):
    """A tree of as many leaves, as flat as may be: 2 * leaves - 1 pieces."""
    row = [name("abcdefgh"[k % 8]) for k in range(leaves)]
    while len(row) > 1:
        pairs = [(word, row[k], row[k + 1]) for k in range(0, len(row) - 1, 2)]
        row = pairs + row[len(row) - len(row) % 2:]
    return row[0]


def comb(depth, word="sum"):
    """A tree that is as deep as told, with a leaf at each step: 2 * depth - 1 pieces."""
    tree = name("a")
    for step in range(depth - 1):
        tree = (word, tree, num(step))
    return tree


def random_tree(chance, depth):
    """Some tree, no deeper than told."""
    kind = chance.randrange(6) if depth > 1 else chance.randrange(2)
    if kind == 0:
        return num(chance.choice([0, 1, 7, 9, 10, 255, MOST]))
    if kind == 1:
        return name(chance.choice(["a", "b", "c", "abcdefgh"]))
    if kind == 2:
        return ("turn", random_tree(chance, depth - 1))
    word = ["sum", "less", "by"][kind - 3]
    return (word, random_tree(chance, depth - 1), random_tree(chance, depth - 1))


def table(classes, *tiles):
    """A table of tiles (class, pattern, price), with names told by their numbers."""
    names = ["t" + "abcdefghij"[k // 10] + "abcdefghij"[k % 10] for k in range(len(tiles))]
    return (tuple(classes), tuple((names[k], tile[0], tile[1], tile[2]) for k, tile in enumerate(tiles)))


# Things of all kinds that are neither a tree nor a table nor a cover nor a paper, whatever these are of.
ODD_THINGS = [
    None, True, False, 0, 1, -1, 10 ** 59, "", "a", "num", "turn", (), [], (None,), [None], ((),), ([],), (True,),
    ("num",), ("turn",), ("sum",), ("at",), ["num", 1], [("num", 1)], [[]], [()], ((), ()), ([], []), (1, 2, 3),
    (None, None), ("a", "b", "c", "d"), [0, [0]], [((), None)], [((), ())], [(0, (0,))],
]


def deep_thing(depth, kind=tuple):
    """A thing in which as many are within one another."""
    thing = kind()
    for step in range(depth - 1):
        thing = kind([thing])
    return thing
