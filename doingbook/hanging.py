"""Worlds in which the two ends of an open road hang together."""

from doingbook.barred import first_roads, is_road, longer_roads, names_on, ways_down
from doingbook.counting import all_ways
from doingbook.errors import NoRoad
from doingbook.worlds import World, bow_places, head_sizes

EVEN_ODDS = ((1, 2), (1, 2))
ALWAYS_0 = ((1, 1), (0, 1))
ALWAYS_1 = ((0, 1), (1, 1))
NOTHING_HIDDEN = ((1, 1),)


def open_roads(drawing, first, last, given):
    told = []
    roads = first_roads(drawing, [first])
    while len(roads) > 0:
        told.extend([road for road in roads if road[-1][2] == last])
        roads = longer_roads(drawing, roads, given)
    return told


def plainest_road(drawing, first, last, given):
    # Of the road whose ways down have the fewest names no way comes to a name of another way, nor to a name of the
    # road but its own meeting: else the road that turns off there, along the way, would be open, too, with fewer.
    roads = open_roads(drawing, first, last, given)
    return min(roads, key=lambda road: sum([len(way) for way in ways_down(drawing, road, given)]))


def used_ties(road, ways):
    told = [(step[0], step[2]) for step in road if step[1] == "down"]
    told.extend([(step[2], step[0]) for step in road if step[1] == "up"])
    for way in ways:
        told.extend(list(zip(way[:-1], way[1:])))
    return told


def used_bows(road):
    return [tuple(sorted([step[0], step[2]])) for step in road if step[1] == "bow"]


def used_heads(drawing, name, ties, bows):
    by_ties = [(source, name) in ties for source in drawing.sources(name)]
    by_bows = [drawing.bows[place] in bows for place in bow_places(drawing, name)]
    return by_ties + by_bows


def odd_row(way, used):
    odd = sum([value for value, is_used in zip(way, used) if is_used]) % 2 == 1
    return ALWAYS_1 if odd else ALWAYS_0


def table_of(sizes, used, on_road):
    ways = all_ways(sizes)
    if any(used):
        return [odd_row(way, used) for way in ways]
    return [EVEN_ODDS if on_road else ALWAYS_0 for way in ways]


def hung_world(drawing, road, ways):
    # Each name tells whether the used heads come to an odd number, so where a way down ends in 0 the two steps to its
    # meeting bring the same value. So given 0 everywhere both ends are 0 together, or 1 together, at even odds.
    ties = used_ties(road, ways)
    bows = used_bows(road)
    sizes = [2 for name in range(drawing.count)]
    hidden = [EVEN_ODDS if bow in bows else NOTHING_HIDDEN for bow in drawing.bows]
    on_road = names_on(road)
    tables = []
    for name in range(drawing.count):
        heads = head_sizes(drawing, sizes, hidden, name)
        tables.append(table_of(heads, used_heads(drawing, name, ties, bows), name in on_road))
    return World(drawing, sizes, hidden, tables)


def hanging(drawing, ones, others, given, road, ways):
    if not is_road(drawing, ones, others, given, road, ways):
        raise NoRoad("these steps and ways are no open road with its ways down")
    first = road[0][0]
    last = road[-1][2]
    plain = plainest_road(drawing, first, last, given)
    values = {}
    for name in (first, last) + given:
        values[name] = 0
    return (hung_world(drawing, plain, ways_down(drawing, plain, given)), values)
