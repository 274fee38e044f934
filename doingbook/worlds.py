"""Worlds of a drawing: sizes, hidden shares and tables, and the shares that are seen in them."""

from doingbook.counting import all_ways, place_of, product, ways_with
from doingbook.drawings import Drawing, need_apart, need_sets
from doingbook.errors import NoShare, NoValue, NoWorld
from doingbook.fractions import common_bottom, fraction, over, times, tops_over, total

LEAST_SIZE = 2
MOST_SIZE = 4
MOST_HIDDEN = 4
MOST_WEIGHTS = 200000


def is_share(part):
    return len(part) == 2 and part[0] >= 0 and part[1] >= 1 and fraction(part[0], part[1]) == part


def are_shares(parts):
    return all([is_share(part) for part in parts]) and total(parts) == (1, 1)


def copied(parts):
    return tuple([tuple(part) for part in parts])


def are_sizes(drawing, sizes):
    return len(sizes) == drawing.count and all([LEAST_SIZE <= size <= MOST_SIZE for size in sizes])


def are_hidden(drawing, hidden):
    if len(hidden) != len(drawing.bows):
        return False
    return all([1 <= len(shares) <= MOST_HIDDEN and are_shares(shares) for shares in hidden])


def bow_places(drawing, name):
    return [place for place, bow in enumerate(drawing.bows) if name in bow]


def hidden_sizes(drawing, hidden, name):
    return [len(hidden[place]) for place in bow_places(drawing, name)]


def head_sizes(drawing, sizes, hidden, name):
    return [sizes[source] for source in drawing.sources(name)] + hidden_sizes(drawing, hidden, name)


def is_table(table, rows, size):
    return len(table) == rows and all([len(row) == size and are_shares(row) for row in table])


def are_tables(drawing, sizes, hidden, tables):
    if len(tables) != drawing.count:
        return False
    rows = [product(head_sizes(drawing, sizes, hidden, name)) for name in range(drawing.count)]
    return all([is_table(table, count, size) for table, count, size in zip(tables, rows, sizes)])


def joint(names, values, others, theirs):
    told = dict(zip(names, values))
    told.update(dict(zip(others, theirs)))
    return told


def crossed(rows):
    told = [(1, 1)]
    for shares in rows:
        longer = []
        for weight in told:
            longer.extend([times(weight, share) for share in shares])
        told = longer
    return told


def row_places(world, name):
    places = bow_places(world.drawing, name)
    sizes = hidden_sizes(world.drawing, world.hidden, name)
    ways = all_ways([len(shares) for shares in world.hidden])
    return [place_of([way[place] for place in places], sizes) for way in ways]


def picked_entries(world, name, values):
    # Sources are the heads ahead of the bows, so the rows of all hidden ways lie side by side.
    sources = world.drawing.sources(name)
    row_count = product(hidden_sizes(world.drawing, world.hidden, name))
    ahead = place_of([values[source] for source in sources], [world.sizes[source] for source in sources])
    rows = world.tables[name][ahead * row_count:(ahead + 1) * row_count]
    return [row[values[name]] for row in rows]


def weights_without(world, setnames):
    shares = crossed(world.hidden)
    hidden_bottom = common_bottom(shares)
    hidden_tops = tops_over(shares, hidden_bottom)
    names = [name for name in range(world.drawing.count) if name not in setnames]
    places = [row_places(world, name) for name in names]
    told = {}
    for values in all_ways(world.sizes):
        # Whole numbers over one bottom: lowest terms are asked for once, not for each hidden value.
        tops = hidden_tops
        bottom = hidden_bottom
        for name, picks in zip(names, places):
            entries = picked_entries(world, name, values)
            own_bottom = common_bottom(entries)
            own_tops = tops_over(entries, own_bottom)
            tops = [top * own_tops[pick] for top, pick in zip(tops, picks)]
            bottom = bottom * own_bottom
        told[values] = fraction(sum(tops), bottom)
    return told


class World:
    def __init__(self, drawing, sizes, hidden, tables):
        own_drawing = Drawing(drawing.count, drawing.ties, drawing.bows)
        own_sizes = tuple(sizes)
        if not are_sizes(own_drawing, own_sizes):
            raise NoWorld("each name has a size from 2 to 4")
        own_hidden = tuple([copied(shares) for shares in hidden])
        if not are_hidden(own_drawing, own_hidden):
            raise NoWorld("each bow has one to four shares that come to 1")
        if product(own_sizes) * product([len(shares) for shares in own_hidden]) > MOST_WEIGHTS:
            raise NoWorld("the product of all sizes and of all counts of hidden values is at most 200,000")
        own_tables = tuple([tuple([copied(row) for row in table]) for table in tables])
        if not are_tables(own_drawing, own_sizes, own_hidden, own_tables):
            raise NoWorld("each name has a table with a row of shares for each way in which its heads have values")
        self.drawing = own_drawing
        self.sizes = own_sizes
        self.hidden = own_hidden
        self.tables = own_tables
        self.weighed = {}

    def weights(self, setnames):
        # Kept, since shares are asked for again and again; never handed on to an asker but as a copy.
        if setnames not in self.weighed:
            self.weighed[setnames] = weights_without(self, setnames)
        return self.weighed[setnames]

    def seen(self):
        return dict(self.weights(()))

    def need_values(self, names, values):
        if len(names) != len(values):
            raise NoValue("there is one value for each name of the set")
        if not all([0 <= value < self.sizes[name] for name, value in zip(names, values)]):
            raise NoValue("a name's values are the numbers from 0 to its size - 1")

    def summed(self, setnames, fixed):
        weights = self.weights(setnames)
        return total([weights[way] for way in ways_with(self.sizes, fixed)])

    def share(self, names, values):
        self.drawing.need_set(names)
        self.need_values(names, values)
        return self.summed((), dict(zip(names, values)))

    def share_where(self, names, values, others, theirs):
        need_sets(self.drawing, [names, others])
        need_apart([names, others])
        self.need_values(names, values)
        self.need_values(others, theirs)
        seen = self.summed((), dict(zip(others, theirs)))
        if seen == (0, 1):
            raise NoShare("what is seen of the others has no share")
        return over(self.summed((), joint(names, values, others, theirs)), seen)

    def full(self):
        return all([entry[0] > 0 for entry in self.weights(()).values()])
