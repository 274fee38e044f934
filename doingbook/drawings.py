"""Drawings: names, the ties and bows between them, and what is read off from these alone."""

from doingbook.errors import NoBow, NoCount, NoName, NoSets, NoTie

MOST_NAMES = 6
MOST_BOWS = 6


def is_pair(count, pair):
    return len(pair) == 2 and 0 <= pair[0] < pair[1] < count


def are_pairs(count, pairs):
    return all([is_pair(count, pair) for pair in pairs]) and len(set(pairs)) == len(pairs)


def is_set(count, names):
    ahead = -1
    for name in names:
        if name <= ahead or name >= count:
            return False
        ahead = name
    return True


def names_up_to(count):
    return tuple(range(count))


def without(names, others):
    return tuple([name for name in names if name not in others])


def together(names, others):
    return tuple(sorted(set(names + others)))


class Drawing:
    def __init__(self, count, ties, bows):
        if count < 1 or count > MOST_NAMES:
            raise NoCount("a drawing has from one to six names")
        own_ties = [tuple(tie) for tie in ties]
        if not are_pairs(count, own_ties):
            raise NoTie("a tie is a rising pair of two names, and stands once")
        own_bows = [tuple(bow) for bow in bows]
        if not are_pairs(count, own_bows):
            raise NoBow("a bow is a rising pair of two names, and stands once")
        if len(own_bows) > MOST_BOWS:
            raise NoBow("a drawing has at most six bows")
        self.count = count
        self.ties = tuple(sorted(own_ties))
        self.bows = tuple(sorted(own_bows))

    def shape(self):
        return (self.count, self.ties, self.bows)

    def need_name(self, name):
        if name < 0 or name >= self.count:
            raise NoName("this number is no name of the drawing")

    def need_set(self, names):
        if not is_set(self.count, names):
            raise NoName("these numbers are no set of the drawing's names")

    def sources(self, name):
        self.need_name(name)
        return tuple([tie[0] for tie in self.ties if tie[1] == name])

    def followers(self, name):
        self.need_name(name)
        return tuple([tie[1] for tie in self.ties if tie[0] == name])

    def ancestors(self, names):
        self.need_set(names)
        found = list(names)
        # A source is less than its follower, so walking down meets each name behind all its followers.
        for name in range(self.count - 1, -1, -1):
            if name in found:
                found.extend(self.sources(name))
        return tuple(sorted(set(found)))

    def descendants(self, names):
        self.need_set(names)
        found = list(names)
        # A follower is greater than its source, so walking up meets each name behind all its sources.
        for name in range(self.count):
            if name in found:
                found.extend(self.followers(name))
        return tuple(sorted(set(found)))

    def bowed(self, name):
        self.need_name(name)
        ahead = [bow[0] for bow in self.bows if bow[1] == name]
        behind = [bow[1] for bow in self.bows if bow[0] == name]
        return tuple(ahead + behind)

    def lump_of(self, start, names):
        reached = {start: True}
        waiting = [start]
        while len(waiting) > 0:
            name = waiting.pop()
            for other in self.bowed(name):
                if other in names and other not in reached:
                    reached[other] = True
                    waiting.append(other)
        return tuple(sorted(reached))

    def lumps(self, names):
        self.need_set(names)
        told = []
        placed = []
        for name in names:
            if name not in placed:
                lump = self.lump_of(name, names)
                placed.extend(lump)
                told.append(lump)
        return told

    def part(self, names):
        self.need_set(names)
        ties = [tie for tie in self.ties if tie[0] in names and tie[1] in names]
        bows = [bow for bow in self.bows if bow[0] in names and bow[1] in names]
        return Drawing(self.count, ties, bows)

    def cut_in(self, names):
        self.need_set(names)
        ties = [tie for tie in self.ties if tie[1] not in names]
        bows = [bow for bow in self.bows if bow[0] not in names and bow[1] not in names]
        return Drawing(self.count, ties, bows)

    def cut_out(self, names):
        self.need_set(names)
        ties = [tie for tie in self.ties if tie[0] not in names]
        return Drawing(self.count, ties, self.bows)


def need_sets(drawing, sets):
    for names in sets:
        drawing.need_set(names)


def need_apart(sets):
    named = []
    for names in sets:
        named.extend(names)
    if len(set(named)) != len(named):
        raise NoSets("two of these sets have a name in common")
