"""What several tests use: refusals by their very class, many drawings, sets and worlds to ask about, and reckonings
by the words of DOC.md that share nothing with the package's own."""

from fractions import Fraction
from functools import lru_cache
from itertools import combinations, product
from math import prod
from random import Random

from doingbook.drawings import Drawing
from doingbook.worlds import World

# Each is no set of a drawing of six names or fewer.
NO_SETS = [(-1,), (6,), (0, 0), (1, 0), (-1, 0), (0, 7), (2, 1, 3), (0, 1, 1), (10 ** 70,), (10 ** 6000,)]


def refusal(call, *handed):
    """The very class of what the call raises, None where it raises nothing."""
    try:
        call(*handed)
    except Exception as error:
        return type(error)
    return None


def all_sets(count):
    return [names for size in range(count + 1) for names in combinations(range(count), size)]


def all_pairs(count):
    return list(combinations(range(count), 2))


def picked(pairs, mask):
    return [pair for place, pair in enumerate(pairs) if mask >> place & 1]


def small_drawings():
    """Every drawing of one to three names."""
    drawings = []
    for count in range(1, 4):
        pairs = all_pairs(count)
        for ties in range(2 ** len(pairs)):
            for bows in range(2 ** len(pairs)):
                drawings.append(Drawing(count, picked(pairs, ties), picked(pairs, bows)))
    return drawings


def large_drawings():
    """Some drawings of four to six names, thin and thick ones, the same in each run."""
    drawings = []
    for count in range(4, 7):
        pairs = all_pairs(count)
        for turn in range(25):
            ties = [pair for place, pair in enumerate(pairs) if (turn * 31 + place * (turn + 7)) % 11 < turn % 9]
            bows = [pair for place, pair in enumerate(pairs) if (turn * 17 + place * (turn + 4)) % 13 < turn % 7]
            drawings.append(Drawing(count, ties, bows[:6]))
        drawings.append(Drawing(count, pairs, pairs[-6:]))
    return drawings


def drawings_to_ask():
    return small_drawings() + large_drawings()


def some_drawings(count, times, seed):
    """Drawings of a count of names with ties and bows strewn, the same in each run."""
    chance = Random(seed)
    pairs = all_pairs(count)
    drawings = []
    for turn in range(times):
        ties = [pair for pair in pairs if chance.randrange(4) <= turn % 4]
        bows = chance.sample(pairs, min(len(pairs), turn % 7))
        drawings.append(Drawing(count, ties, bows))
    return drawings


def strewn_sets(count, how_many):
    """Every row of so many sets, no two of which have a name in common."""
    for places in product(range(how_many + 1), repeat=count):
        yield tuple(tuple(name for name in range(count) if places[name] == k) for k in range(how_many))


def triples(count):
    """Every three sets that point 12 lets in."""
    return [sets for sets in strewn_sets(count, 3) if sets[0] and sets[1]]


def pair_of(number):
    """A fraction of the package's own form."""
    number = Fraction(number)
    return (number.numerator, number.denominator)


def shares_of(weights):
    return [pair_of(Fraction(weight, sum(weights))) for weight in weights]


def row_count(drawing, sizes, counts, name):
    sources = [sizes[u] for u, v in drawing.ties if v == name]
    return prod(sources) * prod(counts[k] for k, bow in enumerate(drawing.bows) if name in bow)


def parts_of_world(drawing, sizes, counts, seed, least=1):
    """Hidden shares and tables strewn over these sizes and counts of hidden values; full where least is above 0."""
    chance = Random(seed)

    def strewn(size):
        weights = [chance.randint(1, 9) if least else chance.choice((0, 0, 1, 2, 7)) for k in range(size)]
        weights[chance.randrange(size)] += 1
        return shares_of(weights)

    hidden = [strewn(count) for count in counts]
    rows = [row_count(drawing, sizes, counts, name) for name in range(drawing.count)]
    tables = [[strewn(sizes[name]) for k in range(rows[name])] for name in range(drawing.count)]
    return hidden, tables


def world_of(drawing, seed, most_size=2, most_hidden=2, least=1):
    chance = Random(seed)
    sizes = [chance.randint(2, most_size) for name in range(drawing.count)]
    counts = [chance.randint(1 if most_hidden < 2 else 2, most_hidden) for bow in drawing.bows]
    hidden, tables = parts_of_world(drawing, sizes, counts, seed + 1, least)
    return World(drawing, sizes, hidden, tables)


def all_values(sizes):
    return list(product(*[range(size) for size in sizes]))


def reckoned_entry(world, name, values, hidden):
    """The entry of a name's table that values of all names and all hidden ones pick, by point 14."""
    heads = [(values[u], world.sizes[u]) for u, v in world.drawing.ties if v == name]
    heads += [(hidden[k], len(world.hidden[k])) for k, bow in enumerate(world.drawing.bows) if name in bow]
    ways = all_values([size for value, size in heads])
    row = ways.index(tuple(value for value, size in heads))
    return Fraction(*world.tables[name][row][values[name]])


def reckoned_weights(world, setting):
    """By points 16 and 18: for all values in which the set names have theirs, the sum of the weights."""
    told = {}
    names = [name for name in range(world.drawing.count) if name not in setting]
    for values in all_values(world.sizes):
        if any(values[name] != value for name, value in setting.items()):
            continue
        told[values] = Fraction(0)
        for hidden in all_values([len(shares) for shares in world.hidden]):
            weight = prod((Fraction(*shares[value]) for shares, value in zip(world.hidden, hidden)), start=Fraction(1))
            for name in names:
                weight *= reckoned_entry(world, name, values, hidden)
            told[values] += weight
    return told


def summed_where(weights, wanted):
    """The sum of the entries in which the names have the wanted values, a dict."""
    fitting = [w for values, w in weights.items() if all(values[name] == value for name, value in wanted.items())]
    return sum(fitting, start=Fraction(0))


def seen_weights(world):
    return {values: Fraction(*entry) for values, entry in world.seen().items()}


@lru_cache(maxsize=64)
def roads_of_shape(count, ties, bows):
    kinds = {}
    for u, v in ties:
        kinds.setdefault((u, v), []).append("down")
        kinds.setdefault((v, u), []).append("up")
    for u, v in bows:
        kinds.setdefault((u, v), []).append("bow")
        kinds.setdefault((v, u), []).append("bow")
    told = []
    stack = [([], [name]) for name in range(count)]
    while stack:
        steps, names = stack.pop()
        for other in range(count):
            for kind in kinds.get((names[-1], other), []):
                if other not in names:
                    stack.append((steps + [(names[-1], kind, other)], names + [other]))
                    told.append(steps + [(names[-1], kind, other)])
    return told


def roads_of(drawing):
    """Every road of a drawing, by point 9."""
    return roads_of_shape(*drawing.shape())


def meetings_of(road):
    told = []
    for (a, into, name), (again, out, b) in zip(road, road[1:]):
        if into in ("down", "bow") and out in ("up", "bow"):
            told.append(name)
    return told


@lru_cache(maxsize=None)
def above(ties, names):
    """The ancestors of a set, by point 6."""
    told = set(names)
    for u, v in sorted(ties, key=lambda tie: -tie[1]):
        if v in told:
            told.add(u)
    return tuple(sorted(told))


def is_open(drawing, road, given):
    """By point 10."""
    inner = [to for start, kind, to in road[:-1]]
    met = meetings_of(road)
    if road[0][0] in given or road[-1][2] in given:
        return False
    if not set(met) <= set(above(drawing.ties, given)):
        return False
    return not any(name in given for name in inner if name not in met)


def ways_from(drawing, meeting, given):
    """Every way down of a meeting, by point 10: a row of followers is rising, so each is a list of a set."""
    told = []
    for names in all_sets(drawing.count):
        leads = all(pair in drawing.ties for pair in zip(names, names[1:]))
        if names and names[0] == meeting and leads and [n for n in names if n in given] == [names[-1]]:
            told.append(list(names))
    return told


def all_ways_down(drawing, road, given):
    """Every list of ways down of an open road."""
    return [list(ways) for ways in product(*[ways_from(drawing, name, given) for name in meetings_of(road)])]


def open_papers(count, times, seed, most):
    """Some drawings and three sets, with open roads between them and ways down, at most so many of each count of
    meetings."""
    told = []
    for place, drawing in enumerate(some_drawings(count, times, seed)):
        roads = roads_of(drawing)
        sets = triples(count)
        for three in sets[place % 5::len(sets) // 10 + 1]:
            found = {}
            for road in roads[::-1]:
                if road[0][0] in three[0] and road[-1][2] in three[1] and is_open(drawing, road, three[2]):
                    found.setdefault(len(meetings_of(road)), []).append(road)
            for some in found.values():
                for road in some[::len(some) // most + 1]:
                    told.append((drawing, three, road, all_ways_down(drawing, road, three[2])))
    return told


def questions(count):
    """Every question of point 24."""
    return [sets for sets in strewn_sets(count, 2) if sets[1]]


def wanted_by_words(drawing, question):
    left = tuple(tie for tie in drawing.ties if not set(tie) & set(question[0]))
    return above(left, question[1])


def lumps_by_words(drawing, names):
    """By point 7: lumps that have a bow between them are put together until there are no such."""
    lumps = [{name} for name in names]
    for u, v in drawing.bows:
        both = [lump for lump in lumps if u in lump or v in lump]
        if u in names and v in names and len(both) == 2:
            lumps = [lump for lump in lumps if lump not in both] + [both[0] | both[1]]
    return sorted(tuple(sorted(lump)) for lump in lumps)


def union(*sets):
    return tuple(sorted(set().union(*sets)))


def less(names, others):
    return tuple(sorted(set(names) - set(others)))


def cut_by_words(shape, into, out):
    """The drawing cut in by some names and cut out by others, by point 8."""
    count, ties, bows = shape
    kept = [(u, v) for u, v in ties if v not in into and u not in out]
    return Drawing(count, kept, [bow for bow in bows if not set(bow) & set(into)])


def statements(count):
    """Every statement of point 32."""
    return [sets for sets in strewn_sets(count, 3) if sets[0]]


def is_barred_by_words(drawing, ones, others, given):
    """By points 10 and 12: no road from one of the ones to one of the others is open."""
    roads = [road for road in roads_of(drawing) if road[0][0] in ones and road[-1][2] in others]
    return not any(is_open(drawing, road, given) for road in roads)
