"""Two worlds that are seen alike and answer a question unlike, where a nest bars it."""

from doingbook.counting import all_ways
from doingbook.cuts import wanted_names
from doingbook.drawings import Drawing, without
from doingbook.errors import NoNest
from doingbook.hanging import EVEN_ODDS, NOTHING_HIDDEN
from doingbook.nests import bars
from doingbook.setting import set_share
from doingbook.worlds import World, bow_places, crossed, head_sizes, joint

# The shares of a bit's two values: those of one that should be 0, then those of one that should be 1.
CLEAR = (((1, 1), (0, 1)), ((0, 1), (1, 1)))
NOISY = (((3, 4), (1, 4)), ((1, 4), (3, 4)))


def bridging_bows(drawing, inner, outer):
    # Inner's own bows first, so that those taken among them hold inner together without any other one.
    told = []
    for bow in drawing.part(inner).bows + drawing.part(outer).bows:
        lumps = Drawing(drawing.count, [], told).lumps(outer)
        if not any([bow[0] in lump and bow[1] in lump for lump in lumps]):
            told.append(bow)
    return told


def ways_on(drawing, names, ends):
    # Each of the names is an ancestor of an end, by names among them: so any follower among them leads on to an end.
    within = drawing.part(names)
    told = {}
    for name in without(names, ends):
        told[name] = within.followers(name)[0]
    return told


def feeders(inner, onward, count):
    # Names rise along each way on, so what feeds a name has been met ahead of it.
    told = {}
    for name in range(count):
        if (name in inner or name in told) and name in onward:
            told.setdefault(onward[name], []).append(name)
    return told


# Each name of outer has a bit: whether the bows taken at it, and the bits of those names whose way to inner leads on to
# it, come to an odd number. So each bow counts twice in the sum of inner's bits, and that sum is even, but for the
# noise of inner's first bit. In the other world inner's names look at the bows within inner alone. Seen, all bits are
# as in the one world: inner's sum is as even as there, and they are at even odds otherwise. But a set name of outer
# takes one of its two counts from some bow in the one world, and there inner's sum is odd at even odds.
# Along ways from inner down to the asked names each name has a noisy bit that carries the sum of inner's bits on.
class Plan:
    def __init__(self, drawing, question, inner, outer):
        taken = bridging_bows(drawing, inner, outer)
        wished = wanted_names(drawing, question)
        self.drawing = drawing
        self.inner = inner
        self.outer = outer
        self.inward = ways_on(drawing, outer, inner)
        self.fed = feeders(inner, ways_on(drawing, wished, question[1]), drawing.count)
        self.sizes = [4 if name in outer and name in self.fed else 2 for name in range(drawing.count)]
        self.hidden = [EVEN_ODDS if bow in taken else NOTHING_HIDDEN for bow in drawing.bows]

    def outer_bit(self, name, value):
        return value // 2 if self.sizes[name] == 4 else value

    def carried(self, name, value):
        own = self.outer_bit(name, value) if name in self.inner else 0
        fed = value % 2 if name in self.fed else 0
        return own + fed

    def outer_sum(self, name, values, bits, looks_within):
        if looks_within and name in self.inner:
            return sum([bit for bow, bit in bits.items() if bow[0] in self.inner and bow[1] in self.inner])
        led = [self.outer_bit(source, value) for source, value in values.items() if self.inward.get(source) == name]
        return sum(led) + sum(bits.values())

    def row_of(self, name, values, bits, looks_within):
        rows = []
        if name in self.outer:
            odds = NOISY if name == self.inner[0] else CLEAR
            rows.append(odds[self.outer_sum(name, values, bits, looks_within) % 2])
        if name in self.fed:
            brought = [self.carried(source, values[source]) for source in self.fed[name]]
            rows.append(NOISY[sum(brought) % 2])
        return crossed(rows) if len(rows) > 0 else EVEN_ODDS

    def table_of(self, name, looks_within):
        sources = self.drawing.sources(name)
        bows = [self.drawing.bows[place] for place in bow_places(self.drawing, name)]
        told = []
        for way in all_ways(head_sizes(self.drawing, self.sizes, self.hidden, name)):
            values = dict(zip(sources, way))
            bits = dict(zip(bows, way[len(sources):]))
            told.append(self.row_of(name, values, bits, looks_within))
        return told

    def world_of(self, looks_within):
        tables = [self.table_of(name, looks_within) for name in range(self.drawing.count)]
        return World(self.drawing, self.sizes, self.hidden, tables)


def unlike_values(question, one, other):
    setnames = question[0]
    setvalues = tuple([0 for name in setnames])
    asked = question[1]
    ways = all_ways([one.sizes[name] for name in asked])
    shares = [set_share(one, setnames, setvalues, asked, way) for way in ways]
    others = [set_share(other, setnames, setvalues, asked, way) for way in ways]
    unlike = [way for way, share, their in zip(ways, shares, others) if share != their]
    return joint(setnames, setvalues, asked, unlike[0])


def parted(drawing, question, inner, outer):
    if not bars(drawing, question, inner, outer):
        raise NoNest("this nest doesn't bar the question")
    plan = Plan(drawing, question, inner, outer)
    one = plan.world_of(False)
    other = plan.world_of(True)
    return (one, other, unlike_values(question, one, other))
