"""Points 14 to 17 and 21, and of points 1 and 5 what they say of them: doingbook/worlds.py."""

import copy
import unittest
from fractions import Fraction
from itertools import product

from doingbook.barred import barred
from doingbook.drawings import Drawing
from doingbook.errors import NoName, NoSets, NoShare, NoValue, NoWorld
from doingbook.worlds import World
from tests.support import (
    NO_SETS, all_pairs, all_sets, all_values, pair_of, parts_of_world, reckoned_weights, refusal, seen_weights,
    shares_of, small_drawings, some_drawings, strewn_sets, summed_where, triples, world_of,
)

FAR = 10 ** 70
HALF = (1, 2)


def worlds_to_ask():
    """Full worlds and others, of drawings with one to six names."""
    told = [world_of(drawing, 3, 3, 3, 0) for drawing in small_drawings()[::3]]
    for count in range(1, 7):
        for turn, drawing in enumerate(some_drawings(count, 7, 20 + count)):
            few = Drawing(count, drawing.ties, drawing.bows[:4])
            told.append(world_of(few, 40 + turn, 4 if count < 4 else 2, 4 if count < 4 else 2, turn % 2))
    return told


def rebuilt(outer, inner, parts):
    """Lists of lists as other kinds of rows; the fractions stay tuples."""
    return outer([inner(part) for part in parts])


class MakingTest(unittest.TestCase):
    def check_fields(self, world, drawing, sizes, hidden, tables):
        self.assertEqual(world.drawing.shape(), drawing.shape())
        self.assertEqual(world.sizes, tuple(sizes))
        self.assertEqual(world.hidden, tuple(tuple(shares) for shares in hidden))
        self.assertEqual(world.tables, tuple(tuple(tuple(row) for row in table) for table in tables))
        self.assertEqual([type(told) for told in (world.sizes, world.hidden, world.tables)], [tuple] * 3)

    def test_drawings_of_one_to_six_names(self):
        for count in range(1, 7):
            for drawing in some_drawings(count, 8, count):
                sizes = [2] * count
                hidden, tables = parts_of_world(drawing, sizes, [2] * len(drawing.bows), count)
                self.check_fields(World(drawing, sizes, hidden, tables), drawing, sizes, hidden, tables)

    def test_sizes_and_hidden_counts_at_their_bounds(self):
        drawing = Drawing(3, [(0, 2), (1, 2)], [(0, 1), (1, 2)])
        for sizes in product((2, 3, 4), repeat=3):
            for counts in product((1, 2, 4), repeat=2):
                hidden, tables = parts_of_world(drawing, sizes, counts, 7)
                self.check_fields(World(drawing, sizes, hidden, tables), drawing, sizes, hidden, tables)

    def test_lists_and_tuples_are_told_as_tuples(self):
        drawing = Drawing(2, [(0, 1)], [(0, 1)])
        sizes = [2, 3]
        hidden, tables = parts_of_world(drawing, sizes, [2], 5)
        for outer, middle, inner in product((list, tuple), repeat=3):
            handed = outer([rebuilt(middle, inner, table) for table in tables])
            world = World(drawing, outer(sizes), rebuilt(outer, inner, hidden), handed)
            self.check_fields(world, drawing, sizes, hidden, tables)
            rows = [row for table in world.tables for row in table]
            for told in list(world.hidden) + list(world.tables) + rows + [f for row in rows for f in row]:
                self.assertIs(type(told), tuple)

    def test_changed_later_it_changes_nothing(self):
        drawing = Drawing(2, [(0, 1)], [(0, 1)])
        sizes = [2, 3]
        hidden, tables = parts_of_world(drawing, sizes, [2], 5)
        kept = copy.deepcopy((sizes, hidden, tables))
        world = World(drawing, sizes, hidden, tables)
        self.assertEqual((sizes, hidden, tables), kept)
        seen = world.seen()
        sizes[0] = 4
        sizes.append(2)
        hidden[0][0] = (0, 1)
        hidden.clear()
        tables[1][0][0] = (7, 1)
        tables[1][1].append((1, 1))
        tables[0].clear()
        tables.append([])
        drawing.ties = ()
        drawing.count = 1
        self.check_fields(world, Drawing(2, [(0, 1)], [(0, 1)]), *kept)
        self.assertEqual(world.seen(), seen)
        self.assertEqual(World(world.drawing, *kept).seen(), seen)

    def test_refused_worlds_leave_what_is_handed_in(self):
        drawing = Drawing(2, [(0, 1)], [(0, 1)])
        hidden, tables = parts_of_world(drawing, [2, 3], [2], 5)
        for sizes in ([2], [2, 5], [3, 3]):
            kept = copy.deepcopy((sizes, hidden, tables))
            self.assertIs(refusal(World, drawing, sizes, hidden, tables), NoWorld)
            self.assertEqual((sizes, hidden, tables), kept)

    def test_shares_of_0_and_of_1_are_let_in(self):
        drawing = Drawing(2, [(0, 1)], [(0, 1)])
        hidden = [[(0, 1), (1, 1)]]
        tables = [[[(0, 1), (1, 1)]] * 2, [[(1, 1), (0, 1)]] * 4]
        self.assertEqual(World(drawing, [2, 2], hidden, tables).hidden, (((0, 1), (1, 1)),))

    def test_long_fractions(self):
        big = 7 ** 200
        row = [(1, big), (big - 1, big)]
        world = World(Drawing(1, [], []), [2], [], [[row]])
        self.assertEqual(world.seen(), {(0,): (1, big), (1,): (big - 1, big)})
        self.assertIs(refusal(World, Drawing(1, [], []), [2], [], [[[(1, big), (big - 2, big)]]]), NoWorld)


class RefusedWorldTest(unittest.TestCase):
    def setUp(self):
        self.drawing = Drawing(3, [(0, 1), (1, 2)], [(0, 2), (1, 2)])
        self.sizes = [2, 3, 2]
        self.hidden, self.tables = parts_of_world(self.drawing, self.sizes, [2, 3], 11)

    def check(self, sizes=None, hidden=None, tables=None):
        handed = (sizes or self.sizes, self.hidden if hidden is None else hidden, tables or self.tables)
        with self.subTest(handed=len(str(handed))):
            self.assertIs(refusal(World, self.drawing, *handed), NoWorld)

    def test_the_world_itself_is_let_in(self):
        self.assertIsNone(refusal(World, self.drawing, self.sizes, self.hidden, self.tables))

    def test_sizes(self):
        for wrong in (1, 0, -1, 5, FAR, -FAR):
            for place in range(3):
                self.check(sizes=self.sizes[:place] + [wrong] + self.sizes[place + 1:])
        self.check(sizes=self.sizes + [2])
        self.check(sizes=self.sizes[:2])
        self.check(sizes=[3, 2, 2])
        self.assertIs(refusal(World, self.drawing, [], self.hidden, self.tables), NoWorld)

    def test_a_size_beyond_4_with_tables_that_fit(self):
        row = shares_of([1] * 5)
        self.assertIs(refusal(World, Drawing(1, [], []), [5], [], [[row]]), NoWorld)
        self.assertIs(refusal(World, Drawing(1, [], []), [1], [], [[[(1, 1)]]]), NoWorld)
        self.assertIsNone(refusal(World, Drawing(1, [], []), [4], [], [[row[:3] + [(2, 5)]]]))

    def test_hidden_shares(self):
        good = self.hidden
        self.check(hidden=[])
        self.check(hidden=good[:1])
        self.check(hidden=good + [[(1, 1)]])
        self.check(hidden=[[], good[1]])
        self.check(hidden=[good[1], good[0]])
        for wrong in (
            [HALF], [HALF, HALF, HALF], [(3, 2), (-1, 2)], [(-1, 1), (2, 1)], [(0, 1), (0, 1)], [HALF, (1, 3)],
            [HALF, (2, 3)], [(1, 1), (0, 1), (0, 1)],
        ):
            self.check(hidden=[wrong, good[1]])

    def test_tuples_that_are_no_fractions(self):
        for wrong in ([(2, 4), HALF], [(1, 2), (-1, -2)], [(0, 2), (1, 1)], [(1, 0), (0, 1)], [(1, 2, 3), HALF]):
            self.check(hidden=[wrong, self.hidden[1]])
            self.check(tables=[[wrong] * 2, self.tables[1], self.tables[2]])

    def test_five_hidden_shares_with_tables_that_fit(self):
        drawing = Drawing(2, [], [(0, 1)])
        for count in range(0, 7):
            shares = shares_of([1] * count) if count else []
            tables = [[[HALF, HALF]] * count] * 2
            self.assertIs(refusal(World, drawing, [2, 2], [shares], tables), None if 1 <= count <= 4 else NoWorld)

    def test_tables_rows_and_entries(self):
        good = self.tables
        self.check(tables=good[:2])
        self.check(tables=good + [[[HALF, HALF]]])
        self.check(tables=[good[1], good[0], good[2]])
        for name, table in enumerate(good):
            for other in (table[:-1], table + [table[0]], []):
                self.check(tables=good[:name] + [other] + good[name + 1:])
            for place, row in enumerate(table):
                rows = [row[:-1], row + [(0, 1)], [], row[:-1] + [(FAR, 1)], row[:-1] + [(-1, 1)]]
                rows += [[(3, 2), (-1, 2)] + [(0, 1)] * (len(row) - 2), [(0, 1)] * len(row)]
                rows += [[(1, 1), (-1, 3), (1, 3)][:len(row)], [(1, 1)] + row[1:]]
                for other in rows:
                    bent = table[:place] + [other] + table[place + 1:]
                    self.check(tables=good[:name] + [bent] + good[name + 1:])

    def test_the_product_is_at_most_200000(self):
        # The ties are none, so the tables stay small beside what all values and hidden ones come to.
        bows = [(0, 1), (1, 2), (2, 3), (3, 4), (4, 5), (0, 5)]
        drawing = Drawing(6, [], bows)
        cases = [
            ([2] * 6, [4, 4, 4, 4, 4, 3], None), ([2] * 6, [4] * 6, NoWorld), ([4] * 6, [4, 4, 3, 1, 1, 1], None),
            ([4] * 6, [4, 4, 4, 1, 1, 1], NoWorld), ([3] * 6, [4, 4, 4, 4, 1, 1], None),
            ([3] * 6, [3, 3, 3, 3, 3, 1], None), ([3] * 6, [3, 3, 4, 4, 2, 1], NoWorld),
            ([4, 4, 4, 4, 4, 3], [4, 4, 4, 1, 1, 1], None),
        ]
        for sizes, counts, wanted in cases:
            hidden, tables = parts_of_world(drawing, sizes, counts, 1)
            with self.subTest(sizes=sizes, counts=counts):
                self.assertIs(refusal(World, drawing, sizes, hidden, tables), wanted)
                if wanted:
                    # Ahead of the tables: they are not so much as counted.
                    self.assertIs(refusal(World, drawing, sizes, hidden, []), NoWorld)


class SeenTest(unittest.TestCase):
    def test_against_sums_reckoned_here(self):
        for world in worlds_to_ask():
            with self.subTest(shape=world.drawing.shape(), sizes=world.sizes):
                told = world.seen()
                self.assertIs(type(told), dict)
                self.assertEqual(list(told), all_values(world.sizes))
                self.assertEqual(told, {k: pair_of(w) for k, w in reckoned_weights(world, {}).items()})
                self.assertEqual(sum(Fraction(*entry) for entry in told.values()), 1)

    def test_written_out(self):
        drawing = Drawing(2, [(0, 1)], [(0, 1)])
        tables = [
            [[(1, 2), (1, 2)], [(1, 4), (3, 4)]],
            [[(1, 1), (0, 1)], [(1, 3), (2, 3)], [(0, 1), (1, 1)], [(1, 5), (4, 5)]],
        ]
        world = World(drawing, [2, 2], [[(1, 3), (2, 3)]], tables)
        self.assertEqual(world.seen(), {
            (0, 0): (2, 9), (0, 1): (1, 9), (1, 0): (1, 10), (1, 1): (17, 30),
        })
        self.assertEqual(list(world.seen()), [(0, 0), (0, 1), (1, 0), (1, 1)])

    def test_told_dicts_are_the_askers_own(self):
        world = world_of(Drawing(3, [(0, 1)], [(1, 2)]), 3, 3)
        first = world.seen()
        kept = dict(first)
        second = world.seen()
        share = world.share((1,), (1,))
        first.clear()
        second[(0, 0, 0)] = (9, 1)
        self.assertEqual(world.seen(), kept)
        self.assertEqual(world.share((1,), (1,)), share)
        self.assertIs(world.full(), True)

    def test_full_and_not_full(self):
        seen = []
        for world in worlds_to_ask():
            wanted = all(entry > 0 for entry in reckoned_weights(world, {}).values())
            seen.append(wanted)
            self.assertIs(world.full(), wanted)
        self.assertEqual(set(seen), {True, False})
        # A table entry of 0 that no hidden value of a share above 0 picks alone leaves the world full.
        tables = [[[(0, 1), (1, 1)], [HALF, HALF]], [[HALF, HALF]] * 2]
        self.assertIs(World(Drawing(2, [], [(0, 1)]), [2, 2], [[HALF, HALF]], tables).full(), True)
        self.assertIs(World(Drawing(2, [], [(0, 1)]), [2, 2], [[(1, 1), (0, 1)]], tables).full(), False)

    def test_a_world_with_the_greatest_product(self):
        drawing = Drawing(6, all_pairs(6), [(0, 5), (1, 5), (2, 3)])
        sizes = [4] * 6
        hidden, tables = parts_of_world(drawing, sizes, [4, 4, 3], 8)
        world = World(drawing, sizes, hidden, tables)
        self.assertEqual(len(world.seen()), 4096)
        self.assertEqual(sum(Fraction(*entry) for entry in world.seen().values()), 1)
        self.assertEqual(world.share((), ()), (1, 1))


class ShareTest(unittest.TestCase):
    def test_shares_of_every_set_for_all_values(self):
        for world in worlds_to_ask()[::2]:
            weights = reckoned_weights(world, {})
            for names in all_sets(world.drawing.count):
                for values in all_values([world.sizes[name] for name in names])[:12]:
                    wanted = summed_where(weights, dict(zip(names, values)))
                    self.assertEqual(world.share(names, values), pair_of(wanted))
            self.assertEqual(world.share((), ()), (1, 1))

    def test_quotients(self):
        refused = 0
        for world in worlds_to_ask()[::3]:
            weights = reckoned_weights(world, {})
            several = list(strewn_sets(world.drawing.count, 2))
            for names, others in several[::len(several) // 40 + 1]:
                ways = all_values([world.sizes[name] for name in names + others])
                for way in ways[::len(ways) // 5 + 1]:
                    values, theirs = way[:len(names)], way[len(names):]
                    below = summed_where(weights, dict(zip(others, theirs)))
                    if below == 0:
                        refused += 1
                        self.assertIs(refusal(world.share_where, names, values, others, theirs), NoShare)
                    else:
                        both = summed_where(weights, dict(zip(names + others, way)))
                        self.assertEqual(world.share_where(names, values, others, theirs), pair_of(both / below))
        self.assertGreater(refused, 5)

    def test_written_out(self):
        world = World(Drawing(2, [(0, 1)], []), [2, 2], [], [[[(1, 3), (2, 3)]], [[(1, 4), (3, 4)], [(1, 1), (0, 1)]]])
        self.assertEqual(world.share((0,), (1,)), (2, 3))
        self.assertEqual(world.share((1,), (0,)), (3, 4))
        self.assertEqual(world.share((0, 1), (1, 1)), (0, 1))
        self.assertEqual(world.share_where((0,), (0,), (1,), (0,)), (1, 9))
        self.assertEqual(world.share_where((1,), (1,), (0,), (0,)), (3, 4))
        self.assertEqual(world.share_where((1,), (1,), (), ()), (1, 4))
        self.assertEqual(world.share_where((), (), (1,), (1,)), (1, 1))

    def test_a_second_share_of_0(self):
        world = World(Drawing(2, [], []), [2, 2], [], [[[(1, 1), (0, 1)]], [[HALF, HALF]]])
        self.assertIs(refusal(world.share_where, (1,), (0,), (0,), (1,)), NoShare)
        self.assertIs(refusal(world.share_where, (), (), (0,), (1,)), NoShare)
        self.assertEqual(world.share_where((0,), (1,), (1,), (0,)), (0, 1))


class RefusedShareTest(unittest.TestCase):
    def setUp(self):
        self.world = World(
            Drawing(3, [(0, 1)], []), [2, 3, 4], [],
            [[[(1, 1), (0, 1)]], [shares_of([1, 1, 1])] * 2, [shares_of([1, 1, 1, 1])]],
        )

    def test_what_is_no_set(self):
        for wrong in NO_SETS:
            self.assertIs(refusal(self.world.share, wrong, (0,) * len(wrong)), NoName)
            self.assertIs(refusal(self.world.share, wrong, ()), NoName)
            self.assertIs(refusal(self.world.share_where, wrong, (0,) * len(wrong), (2,), (0,)), NoName)
            self.assertIs(refusal(self.world.share_where, (2,), (0,), wrong, (0,) * len(wrong)), NoName)

    def test_values(self):
        for names, values in [
            ((0,), (2,)), ((0,), (-1,)), ((1,), (3,)), ((2,), (4,)), ((2,), (FAR,)), ((0,), ()), ((0,), (0, 0)),
            ((), (0,)), ((0, 1, 2), (0, 0)), ((0, 1), (2, 0)), ((0, 1), (0, 3)), ((1, 2), (-3, 3)), ((0, 1), (0, 1, 2)),
        ]:
            self.assertIs(refusal(self.world.share, names, values), NoValue)
            self.assertIs(refusal(self.world.share_where, names, values, (), ()), NoValue)
            self.assertIs(refusal(self.world.share_where, (), (), names, values), NoValue)
        for values in ((1, 2, 3), (0, 0, 0)):
            self.assertIsNone(refusal(self.world.share, (0, 1, 2), values))

    def test_common_names(self):
        for names, others in [((0,), (0,)), ((0, 1), (1, 2)), ((0, 1, 2), (0, 1, 2)), ((2,), (0, 2))]:
            self.assertIs(refusal(self.world.share_where, names, (0,) * len(names), others, (0,) * len(others)), NoSets)

    def test_several_faults_in_the_order_told(self):
        ask = self.world.share_where
        self.assertIs(refusal(ask, (0,), (9,), (0, 0), (1,)), NoName)
        self.assertIs(refusal(ask, (3,), (9,), (0,), (1,)), NoName)
        self.assertIs(refusal(ask, (0,), (9,), (0,), (1,)), NoSets)
        self.assertIs(refusal(ask, (0,), (0,), (0,), (1, 1)), NoSets)
        self.assertIs(refusal(ask, (1,), (9,), (0,), (1,)), NoValue)
        self.assertIs(refusal(ask, (1,), (), (0,), (1,)), NoValue)
        self.assertIs(refusal(ask, (1,), (0,), (0,), (2,)), NoValue)
        self.assertIs(refusal(ask, (1,), (0,), (0,), (1,)), NoShare)
        self.assertIs(refusal(self.world.share, (0, 3), (9, 9)), NoName)


class BarredTest(unittest.TestCase):
    """Point 21."""

    def check(self, world, sets):
        weights = seen_weights(world)
        sums = {}
        for values, weight in weights.items():
            for names in all_sets(world.drawing.count):
                key = (names, tuple(values[name] for name in names))
                sums[key] = sums.get(key, 0) + weight
        ones, others, given = sets
        for values in weights:
            def share(*parts):
                names = tuple(sorted(sum(parts, ())))
                return sums[names, tuple(values[name] for name in names)]
            self.assertEqual(share(ones, others, given) * share(given), share(ones, given) * share(others, given))

    def test_where_barred_the_shares_are_products(self):
        asked = 0
        for count in range(2, 7):
            for turn, drawing in enumerate(some_drawings(count, 14, 60 + count)):
                sets = [three for three in triples(count) if barred(drawing, *three)[0]]
                if not sets:
                    continue
                worlds = [world_of(drawing, turn, 3 if count < 5 else 2, 2, least) for least in (0, 1)]
                for three in sets[turn % 3::len(sets) // 6 + 1]:
                    for world in worlds:
                        asked += 1
                        self.check(world, three)
        self.assertGreater(asked, 100)


if __name__ == "__main__":
    unittest.main()
