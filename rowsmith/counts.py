"""How many covers a tree has, and all of them."""

from rowsmith.chains import laid_tiles
from rowsmith.errors import TooMany
from rowsmith.shapes import is_pass


def pass_chains(table, cls):
    """The chains of passes with which a cover for a class may begin, none among them.

    A dict from the class of the tile behind them to lists of tiles' numbers. The classes of a chain and that one
    are all unlike.
    """
    passes = [(number, tile[1], tile[2][1]) for number, tile in enumerate(table[1]) if is_pass(tile)]
    found = {}
    waiting = [([], [cls])]
    while waiting:
        chain = waiting.pop()
        numbers = chain[0]
        classes = chain[1]
        found.setdefault(classes[-1], []).append(numbers)
        for number, to, hole in passes:
            if to == classes[-1] and hole not in classes:
                waiting.append((numbers + [number], classes + [hole]))
    return found


def all_chains(table):
    """The chains of passes for each class, a dict."""
    found = {}
    for cls in table[0]:
        found[cls] = pass_chains(table, cls)
    return found


def first_counts(tiles, counts):
    """For each class how many covers begin with one of these tiles of it, by the counts at the places below."""
    found = {}
    for number, cls, price, spots in tiles:
        ways = 1
        for place, kind in spots:
            ways = ways * counts[place][kind]
        found[cls] = found.get(cls, 0) + ways
    return found


def count_covers(laid, chains):
    """For each place and class how many covers there are, a dict of dicts."""
    counts = {}
    for place in reversed(list(laid)):
        first = first_counts(laid[place], counts)
        here = {}
        for cls in chains:
            here[cls] = sum([len(numbers) * first.get(end, 0) for end, numbers in chains[cls].items()])
        counts[place] = here
    return counts


def how_many(table, tree, cls):
    """How many covers a tree has for a class."""
    return count_covers(laid_tiles(table, tree), all_chains(table))[()][cls]


def moves_at(tiles, chains, counts):
    """What a cover may begin with: tuples of a list of numbers, passes and one of these tiles, and the tile's spots.

    Only those are told that lead to a cover, so that nobody follows ways without end that lead to none.
    """
    found = []
    for number, cls, price, spots in tiles:
        if all([counts[place][kind] > 0 for place, kind in spots]):
            found.extend([(chain + [number], spots) for chain in chains.get(cls, [])])
    return found


def all_covers(table, tree, cls, limit=200):
    """All covers of a tree for a class, each once; TooMany where there are more than the limit."""
    laid = laid_tiles(table, tree)
    chains = all_chains(table)
    counts = count_covers(laid, chains)
    if counts[()][cls] > limit:
        raise TooMany(f"more than {limit} covers")
    moves = {}
    found = []
    # Covers that are begun: the numbers so far, and the spots still to be covered, the next one last.
    waiting = [([], [((), cls)])]
    while waiting:
        begun = waiting.pop()
        if not begun[1]:
            found.append(begun[0])
            continue
        spot = begun[1][-1]
        if spot not in moves:
            moves[spot] = moves_at(laid[spot[0]], chains[spot[1]], counts)
        for numbers, spots in moves[spot]:
            waiting.append((begun[0] + numbers, begun[1][:-1] + list(reversed(spots))))
    return found
