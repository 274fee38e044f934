"""Barred roads: whether a given set bars some names from others, and the papers for either answer."""

from doingbook.drawings import need_apart, need_sets
from doingbook.errors import NoSets


def need_barring(drawing, ones, others, given):
    need_sets(drawing, [ones, others, given])
    need_apart([ones, others, given])
    if len(ones) == 0 or len(others) == 0:
        raise NoSets("neither the ones nor the others may be empty")


def points_at_to(step):
    return step[1] != "up"


def points_at_from(step):
    return step[1] != "down"


def is_meeting(step, behind):
    return points_at_to(step) and points_at_from(behind)


def steps_from(drawing, name):
    down = [(name, "down", other) for other in drawing.followers(name)]
    up = [(name, "up", other) for other in drawing.sources(name)]
    bow = [(name, "bow", other) for other in drawing.bowed(name)]
    return down + up + bow


def is_step(drawing, step):
    if step[1] == "down":
        return (step[0], step[2]) in drawing.ties
    if step[1] == "up":
        return (step[2], step[0]) in drawing.ties
    if step[1] == "bow":
        return (step[0], step[2]) in drawing.bows or (step[2], step[0]) in drawing.bows
    return False


def names_on(road):
    return [road[0][0]] + [step[2] for step in road]


def meetings(road):
    return [step[2] for step, behind in zip(road[:-1], road[1:]) if is_meeting(step, behind)]


def is_passed(step, behind, given, above):
    if is_meeting(step, behind):
        return step[2] in above
    return step[2] not in given


def is_joined(road):
    names = names_on(road)
    linked = [step[2] == behind[0] for step, behind in zip(road[:-1], road[1:])]
    return all(linked) and len(set(names)) == len(names)


def is_open_inside(drawing, road, given):
    if len(road) == 0 or not all([is_step(drawing, step) for step in road]) or not is_joined(road):
        return False
    above = drawing.ancestors(given)
    return all([is_passed(step, behind, given, above) for step, behind in zip(road[:-1], road[1:])])


def is_way_down(drawing, meeting, given, way):
    if len(way) == 0 or way[0] != meeting or way[-1] not in given:
        return False
    if any([name in given for name in way[:-1]]):
        return False
    return all([(name, behind) in drawing.ties for name, behind in zip(way[:-1], way[1:])])


def are_ways_down(drawing, road, given, ways):
    met = meetings(road)
    if len(ways) != len(met):
        return False
    return all([is_way_down(drawing, meeting, given, way) for meeting, way in zip(met, ways)])


def is_road(drawing, ones, others, given, road, ways):
    need_barring(drawing, ones, others, given)
    if not is_open_inside(drawing, road, given):
        return False
    if road[0][0] not in ones or road[-1][2] not in others:
        return False
    return are_ways_down(drawing, road, given, ways)


def asked_beside(drawing, standing, given, above):
    name = standing[0]
    pointed = standing[1]
    asked = []
    if name not in given:
        asked.extend([(other, True) for other in drawing.followers(name)])
    if (pointed and name in above) or (not pointed and name not in given):
        asked.extend([(other, False) for other in drawing.sources(name)])
        asked.extend([(other, True) for other in drawing.bowed(name)])
    return asked


def least_shut(drawing, ones, given):
    above = drawing.ancestors(given)
    waiting = [(name, False) for name in ones]
    told = []
    while len(waiting) > 0:
        standing = waiting.pop()
        if standing not in told:
            told.append(standing)
            waiting.extend(asked_beside(drawing, standing, given, above))
    return told


def is_shut(drawing, ones, others, given, standings):
    need_barring(drawing, ones, others, given)
    names = [standing[0] for standing in standings]
    if not all([0 <= name < drawing.count and name not in others for name in names]):
        return False
    above = drawing.ancestors(given)
    there = {}
    asked = [(name, False) for name in ones]
    for standing in standings:
        there[standing] = True
        asked.extend(asked_beside(drawing, standing, given, above))
    return all([standing in there for standing in asked])


def first_roads(drawing, names):
    told = []
    for name in names:
        told.extend([[step] for step in steps_from(drawing, name)])
    return told


def longer_roads(drawing, roads, given):
    above = drawing.ancestors(given)
    told = []
    for road in roads:
        names = names_on(road)
        for step in steps_from(drawing, names[-1]):
            if step[2] not in names and is_passed(road[-1], step, given, above):
                told.append(road + [step])
    return told


def shortest_road(drawing, ones, others, given):
    # This ends: it is asked only where a standing of the least shut list leads to the others, so a road is there.
    roads = first_roads(drawing, ones)
    found = [road for road in roads if road[-1][2] in others]
    while len(found) == 0:
        roads = longer_roads(drawing, roads, given)
        found = [road for road in roads if road[-1][2] in others]
    return found[0]


def shortest_way(drawing, meeting, given):
    # This ends: a meeting of an open road is an ancestor of the given set.
    ways = [[meeting]]
    found = [way for way in ways if way[-1] in given]
    while len(found) == 0:
        longer = []
        for way in ways:
            longer.extend([way + [name] for name in drawing.followers(way[-1])])
        ways = longer
        found = [way for way in ways if way[-1] in given]
    return found[0]


def ways_down(drawing, road, given):
    return [shortest_way(drawing, meeting, given) for meeting in meetings(road)]


def barred(drawing, ones, others, given):
    need_barring(drawing, ones, others, given)
    standings = least_shut(drawing, ones, given)
    if not any([standing[0] in others for standing in standings]):
        return (True, standings)
    road = shortest_road(drawing, ones, others, given)
    return (False, (road, ways_down(drawing, road, given)))
