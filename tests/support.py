"""What several tests use: refusals by their very class, and many drawings and sets to ask about."""

from itertools import combinations

from doingbook.drawings import Drawing


def refusal(call, *handed):
    """The very class of what the call raises, None where it raises nothing."""
    try:
        call(*handed)
    except Exception as error:
        return type(error)
    return None


def all_sets(count):
    return [names for size in range(count + 1) for names in combinations(range(count), size)]


def all_pairs(count):
    return list(combinations(range(count), 2))


def picked(pairs, mask):
    return [pair for place, pair in enumerate(pairs) if mask >> place & 1]


def small_drawings():
    """Every drawing of one to three names."""
    drawings = []
    for count in range(1, 4):
        pairs = all_pairs(count)
        for ties in range(2 ** len(pairs)):
            for bows in range(2 ** len(pairs)):
                drawings.append(Drawing(count, picked(pairs, ties), picked(pairs, bows)))
    return drawings


def large_drawings():
    """Some drawings of four to six names, thin and thick ones, the same in each run."""
    drawings = []
    for count in range(4, 7):
        pairs = all_pairs(count)
        for turn in range(25):
            ties = [pair for place, pair in enumerate(pairs) if (turn * 31 + place * (turn + 7)) % 11 < turn % 9]
            bows = [pair for place, pair in enumerate(pairs) if (turn * 17 + place * (turn + 4)) % 13 < turn % 7]
            drawings.append(Drawing(count, ties, bows[:6]))
        drawings.append(Drawing(count, pairs, pairs[-6:]))
    return drawings


def drawings_to_ask():
    return small_drawings() + large_drawings()
