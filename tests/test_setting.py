"""Points 18 and 19, and of points 1 and 5 what they say of them: doingbook/setting.py."""

import unittest
from fractions import Fraction
from itertools import product

from doingbook.drawings import Drawing
from doingbook.errors import NoName, NoSets, NoShare, NoValue
from doingbook.setting import set_share, set_share_where, set_world
from doingbook.worlds import World
from tests.support import (
    NO_SETS, all_pairs, all_sets, all_values, pair_of, parts_of_world, reckoned_weights, refusal, shares_of,
    some_drawings, strewn_sets, summed_where, world_of,
)

FAR = 10 ** 70
HALF = (1, 2)


def worlds_to_ask():
    told = []
    for count in range(1, 6):
        for turn, drawing in enumerate(some_drawings(count, 9, 30 + count)):
            few = Drawing(count, drawing.ties, drawing.bows[:4])
            told.append(world_of(few, 80 + turn, 4 if count < 3 else 2, 3 if count < 4 else 2, turn % 3 % 2))
    return told


def fields(world):
    return (world.drawing.shape(), world.sizes, world.hidden, world.tables)


def settings_of(world):
    """Every set with some values of its names."""
    told = []
    for names in all_sets(world.drawing.count):
        ways = all_values([world.sizes[name] for name in names])
        told += [(names, values) for values in ways[::len(ways) // 2 + 1]]
    return told


class SetShareTest(unittest.TestCase):
    def test_every_set_against_sums_reckoned_here(self):
        for world in worlds_to_ask()[::2]:
            kept = fields(world)
            for setnames, setvalues in settings_of(world):
                weights = reckoned_weights(world, dict(zip(setnames, setvalues)))
                rest = [name for name in range(world.drawing.count) if name not in setnames]
                for names in [names for names in all_sets(world.drawing.count) if set(names) <= set(rest)]:
                    for values in all_values([world.sizes[name] for name in names])[:6]:
                        wanted = summed_where(weights, dict(zip(names, values)))
                        told = set_share(world, setnames, setvalues, names, values)
                        self.assertEqual(told, pair_of(wanted))
                self.assertEqual(set_share(world, setnames, setvalues, (), ()), (1, 1))
            self.assertEqual(fields(world), kept)

    def test_with_no_name_set_it_is_the_share(self):
        for world in worlds_to_ask()[::3]:
            for names, values in settings_of(world):
                self.assertEqual(set_share(world, (), (), names, values), world.share(names, values))

    def test_quotients_against_sums_reckoned_here(self):
        refused = 0
        for world in worlds_to_ask()[::2]:
            several = list(strewn_sets(world.drawing.count, 3))
            for setnames, names, others in several[::len(several) // 30 + 1]:
                ways = all_values([world.sizes[name] for name in setnames + names + others])
                for way in ways[::len(ways) // 4 + 1]:
                    first, second = len(setnames), len(setnames + names)
                    setvalues, values, theirs = way[:first], way[first:second], way[second:]
                    weights = reckoned_weights(world, dict(zip(setnames, setvalues)))
                    below = summed_where(weights, dict(zip(others, theirs)))
                    handed = (world, setnames, setvalues, names, values, others, theirs)
                    if below == 0:
                        refused += 1
                        self.assertIs(refusal(set_share_where, *handed), NoShare)
                    else:
                        both = summed_where(weights, dict(zip(names + others, way[first:])))
                        self.assertEqual(set_share_where(*handed), pair_of(both / below))
        self.assertGreater(refused, 5)

    def test_written_out(self):
        # Something hidden works on both, so seeing 1 at the first tells of it, and setting it doesn't.
        copies = [[(1, 1), (0, 1)], [(0, 1), (1, 1)]]
        tables = [copies, copies + [[(3, 4), (1, 4)], [(1, 4), (3, 4)]]]
        world = World(Drawing(2, [(0, 1)], [(0, 1)]), [2, 2], [[(1, 3), (2, 3)]], tables)
        self.assertEqual(world.share_where((1,), (1,), (0,), (1,)), (3, 4))
        self.assertEqual(set_share(world, (0,), (1,), (1,), (1,)), (7, 12))
        self.assertEqual(set_share(world, (0,), (0,), (1,), (1,)), (2, 3))
        self.assertEqual(set_share(world, (1,), (0,), (0,), (1,)), (2, 3))
        self.assertEqual(set_share(world, (0, 1), (0, 1), (), ()), (1, 1))
        self.assertEqual(set_share_where(world, (), (), (1,), (1,), (0,), (1,)), (3, 4))
        self.assertEqual(set_share_where(world, (0,), (1,), (), (), (1,), (1,)), (1, 1))

    def test_asked_again_it_tells_the_same(self):
        world = world_of(Drawing(3, [(0, 1), (1, 2)], [(0, 2)]), 4, 3)
        first = set_share(world, (1,), (0,), (2,), (1,))
        seen = world.seen()
        self.assertEqual(set_share(world, (1,), (1,), (0, 2), (1, 1)), set_share(world, (1,), (1,), (0, 2), (1, 1)))
        seen.clear()
        self.assertEqual(set_share(world, (1,), (0,), (2,), (1,)), first)

    def test_a_full_worlds_set_shares_are_above_0(self):
        for count in range(1, 6):
            for turn, drawing in enumerate(some_drawings(count, 4, 90 + count)):
                world = world_of(Drawing(count, drawing.ties, drawing.bows[:3]), turn)
                self.assertIs(world.full(), True)
                for setnames, setvalues in settings_of(world):
                    rest = tuple(name for name in range(count) if name not in setnames)
                    for values in all_values([world.sizes[name] for name in rest]):
                        self.assertGreater(set_share(world, setnames, setvalues, rest, values)[0], 0)


def wanted_table(world, setting, name):
    """By point 19: for each row of the heads that are left the sum over the values of the bows to set names."""
    drawing = world.drawing
    sources = [u for u, v in drawing.ties if v == name]
    bows = [k for k, bow in enumerate(drawing.bows) if name in bow]
    left = [k for k in bows if not set(drawing.bows[k]) & set(setting)]
    cut = [k for k in bows if k not in left]
    heads = sources + [("bow", k) for k in bows]
    ways = all_values([world.sizes[u] for u in sources] + [len(world.hidden[k]) for k in bows])
    told = []
    for kept in all_values([world.sizes[u] for u in sources] + [len(world.hidden[k]) for k in left]):
        row = [Fraction(0)] * world.sizes[name]
        for lost in all_values([len(world.hidden[k]) for k in cut]):
            picks = dict(zip(sources + [("bow", k) for k in left], kept))
            picks.update(zip([("bow", k) for k in cut], lost))
            share = Fraction(1)
            for k, value in zip(cut, lost):
                share *= Fraction(*world.hidden[k][value])
            entries = world.tables[name][ways.index(tuple(picks[head] for head in heads))]
            row = [have + share * Fraction(*entry) for have, entry in zip(row, entries)]
        told.append(tuple(pair_of(entry) for entry in row))
    return tuple(told)


class SetWorldTest(unittest.TestCase):
    def check(self, world, setnames, setvalues):
        setting = dict(zip(setnames, setvalues))
        told = set_world(world, setnames, setvalues)
        self.assertIs(type(told), World)
        count, ties, bows = world.drawing.shape()
        left_bows = tuple(bow for bow in bows if not set(bow) & set(setnames))
        self.assertEqual(told.drawing.shape(), (count, tuple(t for t in ties if t[1] not in setnames), left_bows))
        self.assertEqual(told.sizes, world.sizes)
        self.assertEqual(told.hidden, tuple(s for bow, s in zip(bows, world.hidden) if not set(bow) & set(setnames)))
        for name in range(count):
            if name in setting:
                row = tuple((int(value == setting[name]), 1) for value in range(world.sizes[name]))
                self.assertEqual(told.tables[name], (row,))
            else:
                self.assertEqual(told.tables[name], wanted_table(world, setting, name))
        return told

    def test_every_set_of_many_worlds(self):
        for world in worlds_to_ask():
            kept = fields(world)
            for setnames, setvalues in settings_of(world):
                with self.subTest(shape=world.drawing.shape(), setnames=setnames):
                    told = self.check(world, setnames, setvalues)
                    rest = tuple(name for name in range(world.drawing.count) if name not in setnames)
                    for values in all_values([world.sizes[name] for name in rest])[::3]:
                        self.assertEqual(told.share(rest, values), set_share(world, setnames, setvalues, rest, values))
            self.assertEqual(fields(world), kept)

    def test_shares_of_any_names_not_set(self):
        for world in worlds_to_ask()[::4]:
            for setnames, setvalues in settings_of(world):
                told = set_world(world, setnames, setvalues)
                for names in all_sets(world.drawing.count):
                    if not set(names) & set(setnames):
                        for values in all_values([world.sizes[name] for name in names])[::4]:
                            wanted = set_share(world, setnames, setvalues, names, values)
                            self.assertEqual(told.share(names, values), wanted)

    def test_bows_to_set_names_between_others(self):
        drawing = Drawing(6, all_pairs(6), [(0, 3), (1, 3), (2, 3), (3, 4), (3, 5)])
        hidden, tables = parts_of_world(drawing, [2] * 6, [2, 3, 2, 3, 2], 6)
        world = World(drawing, [2] * 6, hidden, tables)
        for setnames in ((1,), (0, 2), (1, 4), (0, 5), (3,), (0, 1, 2, 4, 5), (0, 1, 2, 3, 4, 5)):
            self.check(world, setnames, (1,) * len(setnames))

    def test_nothing_set(self):
        for world in worlds_to_ask()[::5]:
            self.assertEqual(fields(set_world(world, (), ())), fields(world))


class RefusedTest(unittest.TestCase):
    def setUp(self):
        tables = [[[(1, 1), (0, 1)]], [shares_of([1, 1, 1])] * 2, [shares_of([1, 1, 1, 1])] * 2]
        self.world = World(Drawing(3, [(0, 1), (0, 2)], []), [2, 3, 4], [], tables)

    def test_what_is_no_set(self):
        for wrong in NO_SETS:
            zeros = (0,) * len(wrong)
            self.assertIs(refusal(set_share, self.world, wrong, zeros, (2,), (0,)), NoName)
            self.assertIs(refusal(set_share, self.world, (2,), (0,), wrong, zeros), NoName)
            self.assertIs(refusal(set_world, self.world, wrong, zeros), NoName)
            self.assertIs(refusal(set_share_where, self.world, wrong, zeros, (2,), (0,), (), ()), NoName)
            self.assertIs(refusal(set_share_where, self.world, (), (), wrong, zeros, (2,), (0,)), NoName)
            self.assertIs(refusal(set_share_where, self.world, (2,), (0,), (), (), wrong, zeros), NoName)

    def test_common_names(self):
        for setnames, names in [((0,), (0,)), ((0, 1), (1, 2)), ((0, 1, 2), (0, 1, 2))]:
            zeros = ((0,) * len(setnames), (0,) * len(names))
            self.assertIs(refusal(set_share, self.world, setnames, zeros[0], names, zeros[1]), NoSets)
        for sets in [
            ((0,), (0,), ()), ((0,), (), (0,)), ((), (1,), (1,)), ((0, 1), (2,), (1,)), ((0,), (1,), (0, 1, 2)),
        ]:
            handed = [part for names in sets for part in (names, (0,) * len(names))]
            self.assertIs(refusal(set_share_where, self.world, *handed), NoSets)

    def test_values(self):
        for names, values in [
            ((0,), (2,)), ((0,), (-1,)), ((1,), (3,)), ((2,), (4,)), ((2,), (FAR,)), ((0,), ()), ((0,), (0, 0)),
            ((), (0,)), ((0, 1, 2), (0, 0)), ((0, 1), (2, 0)), ((0, 1), (0, 3)), ((1, 2), (-3, 3)),
        ]:
            self.assertIs(refusal(set_share, self.world, names, values, (), ()), NoValue)
            self.assertIs(refusal(set_share, self.world, (), (), names, values), NoValue)
            self.assertIs(refusal(set_world, self.world, names, values), NoValue)
            for place in range(3):
                handed = [(), ()] * place + [names, values] + [(), ()] * (2 - place)
                self.assertIs(refusal(set_share_where, self.world, *handed), NoValue)

    def test_a_second_share_of_0(self):
        self.assertIs(refusal(set_share_where, self.world, (1,), (0,), (2,), (0,), (0,), (1,)), NoShare)
        self.assertIs(refusal(set_share_where, self.world, (), (), (), (), (0,), (1,)), NoShare)
        self.assertEqual(set_share_where(self.world, (0,), (1,), (2,), (0,), (1,), (2,)), (1, 4))
        self.assertEqual(set_share_where(self.world, (1,), (0,), (0,), (1,), (2,), (0,)), (0, 1))

    def test_several_faults_in_the_order_told(self):
        world = self.world
        self.assertIs(refusal(set_share, world, (0,), (9,), (0, 0), (9,)), NoName)
        self.assertIs(refusal(set_share, world, (3,), (9,), (0,), ()), NoName)
        self.assertIs(refusal(set_share, world, (0,), (9,), (0,), (9,)), NoSets)
        self.assertIs(refusal(set_world, world, (0, 3), (9,)), NoName)
        for sets, wanted in [
            (((0,), (0,), (5,)), NoName), (((7,), (1,), (1,)), NoName), (((1,), (2, 1), (1,)), NoName),
            (((0,), (0,), (1,)), NoSets), (((1,), (2,), (1,)), NoSets), (((0,), (1,), (2,)), NoValue),
        ]:
            for values in product(((9,), ()), repeat=3):
                handed = [part for names, some in zip(sets, values) for part in (names, some)]
                self.assertIs(refusal(set_share_where, world, *handed), wanted)
        self.assertIs(refusal(set_share_where, world, (1,), (3,), (2,), (0,), (0,), (1,)), NoValue)
        self.assertIs(refusal(set_share_where, world, (1,), (0,), (2,), (4,), (0,), (1,)), NoValue)


if __name__ == "__main__":
    unittest.main()
