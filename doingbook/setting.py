"""Setting names by hand: the shares that come of it, and the world that is left."""

from doingbook.counting import all_ways
from doingbook.drawings import need_apart, need_sets
from doingbook.errors import NoShare
from doingbook.fractions import over, times, total
from doingbook.worlds import World, bow_places, head_sizes, joint


def set_share(world, setnames, setvalues, names, values):
    need_sets(world.drawing, [setnames, names])
    need_apart([setnames, names])
    world.need_values(setnames, setvalues)
    world.need_values(names, values)
    return world.summed(setnames, joint(setnames, setvalues, names, values))


def set_share_where(world, setnames, setvalues, names, values, others, theirs):
    need_sets(world.drawing, [setnames, names, others])
    need_apart([setnames, names, others])
    world.need_values(setnames, setvalues)
    world.need_values(names, values)
    world.need_values(others, theirs)
    fixed = joint(setnames, setvalues, others, theirs)
    seen = world.summed(setnames, fixed)
    if seen == (0, 1):
        raise NoShare("what is seen of the others has no share")
    fixed.update(dict(zip(names, values)))
    return over(world.summed(setnames, fixed), seen)


def is_left(world, place, setnames):
    bow = world.drawing.bows[place]
    return bow[0] not in setnames and bow[1] not in setnames


def row_of(size, value):
    return [(1, 1) if other == value else (0, 1) for other in range(size)]


def summed_rows(rows, size):
    return [total([row[value] for row in rows]) for value in range(size)]


def left_table(world, setnames, name):
    source_count = len(world.drawing.sources(name))
    places = bow_places(world.drawing, name)
    gathered = {}
    for way, row in zip(all_ways(head_sizes(world.drawing, world.sizes, world.hidden, name)), world.tables[name]):
        kept = list(way[:source_count])
        share = (1, 1)
        for place, value in zip(places, way[source_count:]):
            if is_left(world, place, setnames):
                kept.append(value)
            else:
                share = times(share, world.hidden[place][value])
        gathered.setdefault(tuple(kept), []).append([times(share, entry) for entry in row])
    # The ways run in order, so the ways of the heads that are left first come up in their own order.
    return [summed_rows(rows, world.sizes[name]) for rows in gathered.values()]


def set_world(world, setnames, setvalues):
    world.drawing.need_set(setnames)
    world.need_values(setnames, setvalues)
    fixed = dict(zip(setnames, setvalues))
    hidden = [shares for place, shares in enumerate(world.hidden) if is_left(world, place, setnames)]
    tables = []
    for name, size in enumerate(world.sizes):
        tables.append([row_of(size, fixed[name])] if name in fixed else left_table(world, setnames, name))
    return World(world.drawing.cut_in(setnames), world.sizes, hidden, tables)
