"""Formulas in seen shares: their open names and what they are worth."""

from doingbook.counting import all_ways, ways_with
from doingbook.errors import NoShare
from doingbook.fractions import over, times, total


def names_of(formula):
    return formula[1] if formula[0] == "seen" or formula[0] == "sum" else ()


def parts_of(formula):
    if formula[0] == "times" or formula[0] == "over":
        return [formula[1], formula[2]]
    if formula[0] == "sum":
        return [formula[2]]
    return []


def lay(formula, places):
    inner = []
    for part in parts_of(formula):
        inner.append(lay(part, places))
    node = (formula[0], names_of(formula), tuple(inner))
    return places.setdefault(node, len(places))


# Tuples (word, names, places of the parts), each behind its parts. A part that stands in several places is there once,
# so that it is worked out once: the formulas of papers have many such.
def laid_out(formula):
    places = {}
    lay(formula, places)
    return list(places)


def opens_of(nodes):
    opens = []
    for node in nodes:
        named = list(node[1]) if node[0] == "seen" else []
        for place in node[2]:
            named.extend(opens[place])
        bound = node[1] if node[0] == "sum" else ()
        opens.append(tuple(sorted(set(named) - set(bound))))
    return opens


def open_names(formula):
    return opens_of(laid_out(formula))[-1]


def key_of(names, values):
    return tuple([values[name] for name in names])


# What a formula is worth hangs on its open names' values alone: so each node is worked out once for each of these that
# is needed, and for no other ones, since a quotient that isn't needed may be one by 0.
class Reckoner:
    def __init__(self, formula, sizes, table):
        self.nodes = laid_out(formula)
        self.opens = opens_of(self.nodes)
        self.sizes = sizes
        self.table = table

    def inner_keys(self, place, key):
        node = self.nodes[place]
        values = dict(zip(self.opens[place], key))
        if node[0] != "sum":
            return [(part, key_of(self.opens[part], values)) for part in node[2]]
        part = node[2][0]
        told = []
        for way in all_ways([self.sizes[name] for name in node[1]]):
            values.update(dict(zip(node[1], way)))
            told.append((part, key_of(self.opens[part], values)))
        return told

    def needed_keys(self, values):
        needed = [{} for node in self.nodes]
        needed[-1][key_of(self.opens[-1], values)] = True
        # A node's parts stand ahead of it, so walking back meets each node behind all that need it.
        for place in range(len(self.nodes) - 1, -1, -1):
            for key in list(needed[place]):
                for part, inner_key in self.inner_keys(place, key):
                    needed[part][inner_key] = True
        return needed

    def seen_share(self, names, key):
        fixed = dict(zip(names, key))
        return total([self.table[way] for way in ways_with(self.sizes, fixed) if way in self.table])

    def worked_out(self, place, key, worths):
        word = self.nodes[place][0]
        if word == "one":
            return (1, 1)
        if word == "seen":
            return self.seen_share(self.nodes[place][1], key)
        found = [worths[part][inner_key] for part, inner_key in self.inner_keys(place, key)]
        if word == "sum":
            return total(found)
        if word == "times":
            return times(found[0], found[1])
        if found[1] == (0, 1):
            raise NoShare("a quotient by what is worth 0")
        return over(found[0], found[1])

    def reckon(self, values):
        worths = []
        for place, keys in enumerate(self.needed_keys(values)):
            known = {}
            for key in keys:
                known[key] = self.worked_out(place, key, worths)
            worths.append(known)
        return worths[-1][key_of(self.opens[-1], values)]


def worth(formula, sizes, table, values):
    return Reckoner(formula, sizes, table).reckon(values)
