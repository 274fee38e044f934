"""Point 20, and of points 1 and 5 what they say of it: doingbook/hanging.py."""

import copy
import unittest

from doingbook.drawings import Drawing
from doingbook.errors import NoName, NoRoad, NoSets
from doingbook.hanging import hanging
from doingbook.worlds import World
from tests.support import (
    NO_SETS, all_pairs, meetings_of, open_papers, reckoned_weights, refusal, seen_weights, summed_where,
)


class HangingTest(unittest.TestCase):
    def check(self, drawing, sets, road, ways, weigh=seen_weights):
        handed = copy.deepcopy((sets, road, ways))
        told = hanging(drawing, *sets, road, ways)
        self.assertEqual((sets, road, ways), handed)
        self.assertEqual([type(told), type(told[0]), type(told[1]), len(told)], [tuple, World, dict, 2])
        world, values = told
        first, last, given = road[0][0], road[-1][2], sets[2]
        self.assertEqual(world.drawing.shape(), drawing.shape())
        self.assertEqual(set(values), {first, last, *given})
        for name, value in values.items():
            self.assertIs(type(value), int)
            self.assertIn(value, range(world.sizes[name]))
        self.assertTrue(all(1 <= len(shares) <= 2 for shares in world.hidden))
        weights = weigh(world)
        by_given = {name: values[name] for name in given}
        both = summed_where(weights, values)
        none = summed_where(weights, by_given)
        by_first = summed_where(weights, {**by_given, first: values[first]})
        by_last = summed_where(weights, {**by_given, last: values[last]})
        self.assertGreater(min(both, none, by_first, by_last), 0)
        self.assertNotEqual(both * none, by_first * by_last)

    def test_open_roads_of_many_drawings(self):
        kinds = set()
        lengths = set()
        met = {}
        for count in range(2, 7):
            for drawing, sets, road, several in open_papers(count, 28, 100 + count, 2):
                kinds.update(kind for start, kind, to in road)
                met[len(several[0])] = met.get(len(several[0]), 0) + 1
                for ways in several[::len(several) // 2 + 1]:
                    lengths.update(len(way) for way in ways)
                    with self.subTest(shape=drawing.shape(), sets=sets, road=road, ways=ways):
                        self.check(drawing, sets, road, ways)
        self.assertEqual(kinds, {"down", "up", "bow"})
        self.assertLessEqual({1, 2, 3}, lengths)
        self.assertGreater(min(met[0], met[1], met[2], met[3]), 20)

    def test_against_weights_reckoned_here(self):
        for count in range(2, 5):
            for drawing, sets, road, several in open_papers(count, 12, 200 + count, 1)[::2]:
                self.check(drawing, sets, road, several[0], lambda world: reckoned_weights(world, {}))

    def test_each_kind_of_step_and_meeting(self):
        pairs = all_pairs(3)
        drawing = Drawing(3, pairs, pairs)
        for road in (
            [(0, "down", 2)], [(2, "up", 0)], [(0, "bow", 2)], [(2, "bow", 0)], [(0, "down", 1), (1, "down", 2)],
            [(1, "up", 0), (0, "down", 2)], [(0, "bow", 1), (1, "down", 2)], [(2, "up", 1), (1, "bow", 0)],
        ):
            self.check(drawing, ((road[0][0],), (road[-1][2],), ()), road, [])
        for road in (
            [(0, "down", 2), (2, "up", 1)], [(0, "bow", 2), (2, "up", 1)], [(0, "down", 2), (2, "bow", 1)],
            [(0, "bow", 2), (2, "bow", 1)],
        ):
            self.assertEqual(meetings_of(road), [2])
            self.check(drawing, ((0,), (1,), (2,)), road, [[2]])

    def test_meetings_whose_ways_come_together(self):
        drawing = Drawing(6, [(0, 2), (1, 2), (1, 3), (2, 4), (3, 4), (4, 5)], [(0, 3), (3, 5)])
        road = [(0, "down", 2), (2, "up", 1), (1, "down", 3), (3, "bow", 5)]
        self.check(drawing, ((0,), (5,), (4,)), road, [[2, 4], [3, 4]])
        drawing = Drawing(6, [(0, 2), (1, 2), (1, 3), (2, 4), (3, 4), (4, 5)], [(0, 3)])
        road = [(0, "down", 2), (2, "up", 1), (1, "down", 3), (3, "bow", 0)]
        self.assertIs(refusal(hanging, drawing, (0,), (3,), (5,), road, [[2, 4, 5], [3, 4, 5]]), NoRoad)

    def test_two_meetings_with_one_way_on(self):
        drawing = Drawing(6, [(2, 4), (3, 4), (4, 5)], [(0, 2), (2, 3), (1, 3)])
        road = [(0, "bow", 2), (2, "bow", 3), (3, "bow", 1)]
        self.check(drawing, ((0,), (1,), (5,)), road, [[2, 4, 5], [3, 4, 5]])
        self.check(drawing, ((1,), (0,), (4, 5)), [(1, "bow", 3), (3, "bow", 2), (2, "bow", 0)], [[3, 4], [2, 4]])

    def test_a_way_down_that_comes_to_a_name_of_the_road(self):
        drawing = Drawing(5, [(1, 2), (2, 3), (3, 4)], [(0, 1), (1, 3)])
        road = [(0, "bow", 1), (1, "bow", 3), (3, "up", 2)]
        self.check(drawing, ((0,), (2,), (4,)), road, [[1, 2, 3, 4], [3, 4]])
        drawing = Drawing(4, [(0, 1), (1, 3), (2, 3)], [(0, 2), (0, 3)])
        road = [(1, "up", 0), (0, "bow", 3)]
        self.check(drawing, ((1,), (3,), (2,)), road, [])
        self.check(drawing, ((2,), (1,), (3,)), [(2, "down", 3), (3, "bow", 0), (0, "down", 1)], [[3]])

    def test_a_way_down_that_comes_to_an_end_of_the_road(self):
        drawing = Drawing(4, [(0, 2), (2, 3)], [(0, 1), (0, 2)])
        road = [(1, "bow", 0), (0, "bow", 2)]
        self.check(drawing, ((1,), (2,), (3,)), road, [[0, 2, 3]])
        self.check(drawing, ((2,), (1,), (3,)), [(2, "bow", 0), (0, "bow", 1)], [[0, 2, 3]])

    def test_ones_others_and_given_names_off_the_road(self):
        drawing = Drawing(6, [(0, 1), (1, 2), (3, 4)], [(4, 5)])
        self.check(drawing, ((0, 3), (2, 5), ()), [(0, "down", 1), (1, "down", 2)], [])
        self.check(drawing, ((0, 1), (2,), (3, 4, 5)), [(0, "down", 1), (1, "down", 2)], [])
        self.check(drawing, ((3,), (5,), (0, 1, 2, 4)), [(3, "down", 4), (4, "bow", 5)], [[4]])

    def test_what_is_told_is_the_askers_own(self):
        drawing = Drawing(3, [(0, 2), (1, 2)], [])
        handed = (drawing, (0,), (1,), (2,), [(0, "down", 2), (2, "up", 1)], [[2]])
        world, values = hanging(*handed)
        kept = (dict(values), world.tables)
        values.clear()
        handed[4].clear()
        handed[5][0].append(7)
        self.assertEqual(world.tables, kept[1])
        again = hanging(*handed[:4], [(0, "down", 2), (2, "up", 1)], [[2]])
        self.assertEqual((again[1], again[0].tables), kept)
        self.assertEqual(drawing.shape(), (3, ((0, 2), (1, 2)), ()))


class RefusedTest(unittest.TestCase):
    def test_what_is_no_open_road_with_its_ways_down(self):
        drawing = Drawing(5, [(0, 2), (1, 2), (2, 3), (3, 4)], [(1, 4)])
        road = [(0, "down", 2), (2, "up", 1)]
        for sets, steps, ways in [
            (((0,), (1,), (2,)), [], []), (((0,), (1,), (2,)), [], [[2]]), (((0,), (1,), (2,)), road[:1], []),
            (((0,), (1,), (2,)), road, []), (((0,), (1,), (2,)), road, [[]]), (((0,), (1,), (2,)), road, [[2], [2]]),
            (((0,), (1,), (2,)), road, [[2, 3]]), (((0,), (1,), (3,)), road, [[2]]), (((0,), (1,), ()), road, []),
            (((0,), (1,), (4,)), road, [[2, 4]]), (((1,), (0,), (2,)), road, [[2]]), (((0,), (4,), (2,)), road, [[2]]),
            (((0,), (3,), (2,)), [(0, "down", 2), (2, "down", 3)], []), (((0,), (1,), (2,)), [(0, "bow", 1)], []),
            (((0,), (1,), (2,)), [(0, "down", 2), (2, "side", 1)], [[2]]), (((0,), (1,), (2,)), [(0, "down", 9)], []),
            (((0,), (4,), (1, 2)), road + [(1, "bow", 4)], [[2]]),
        ]:
            with self.subTest(sets=sets, steps=steps, ways=ways):
                self.assertIs(refusal(hanging, drawing, *sets, steps, ways), NoRoad)

    def test_no_name_and_no_sets_are_ahead(self):
        drawing = Drawing(6, [(0, 1), (1, 2)], [])
        for road in ([], [(0, "down", 1)], [(0, "down", 5)]):
            for wrong in NO_SETS:
                self.assertIs(refusal(hanging, drawing, wrong, (1,), (), road, []), NoName)
                self.assertIs(refusal(hanging, drawing, (1,), wrong, (1,), road, [[]]), NoName)
                self.assertIs(refusal(hanging, drawing, (), (), wrong, road, []), NoName)
            for sets in [
                ((0,), (0, 1), ()), ((), (1,), ()), ((0,), (), (1,)), ((0,), (1,), (1,)), ((0,), (1,), (0, 2)),
            ]:
                self.assertIs(refusal(hanging, drawing, *sets, road, []), NoSets)


if __name__ == "__main__":
    unittest.main()
