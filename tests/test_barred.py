"""Points 9 to 13, and of points 1 and 5 what they say of it: doingbook/barred.py."""

import copy
import unittest
from itertools import combinations, product
from random import Random

from doingbook.barred import barred, is_road, is_shut
from doingbook.drawings import Drawing
from doingbook.errors import NoName, NoSets
from tests.support import (
    NO_SETS, above, all_ways_down, drawings_to_ask, is_open, meetings_of, open_papers, refusal, roads_of,
    small_drawings, some_drawings, triples,
)


def ask_all(drawing, ones, others, given):
    """What the three functions refuse these sets with."""
    return {
        refusal(barred, drawing, ones, others, given),
        refusal(is_shut, drawing, ones, others, given, []),
        refusal(is_road, drawing, ones, others, given, [], []),
    }


def wanted_beside(drawing, name, pointed, given):
    """By point 11, sentence by sentence."""
    followers = [(v, True) for u, v in drawing.ties if u == name]
    sources = [(u, False) for u, v in drawing.ties if v == name]
    bows = [(v, True) for u, v in drawing.bows if u == name] + [(u, True) for u, v in drawing.bows if v == name]
    if not pointed:
        return [] if name in given else followers + sources + bows
    told = []
    if name not in given:
        told += followers
    if name in above(drawing.ties, given):
        told += sources + bows
    return told


def is_shut_by_words(drawing, ones, others, given, standings):
    if any(name not in range(drawing.count) or name in others for name, pointed in standings):
        return False
    wanted = [(name, False) for name in ones]
    for name, pointed in standings:
        wanted += wanted_beside(drawing, name, pointed, given)
    return set(wanted) <= set(standings)


def papers_to_bend():
    """Some drawings and sets with both answers."""
    told = []
    for count in range(2, 7):
        for drawing in some_drawings(count, 12, count):
            sets = triples(count)
            told += [(drawing, three) for three in sets[::len(sets) // 9 + 1]]
    return told


class AnswersTest(unittest.TestCase):
    def check(self, drawing, sets):
        roads = roads_of(drawing)
        open_by = {}
        for ones, others, given in sets:
            if given not in open_by:
                open_by[given] = [road for road in roads if is_open(drawing, road, given)]
            between = [road for road in open_by[given] if road[0][0] in ones and road[-1][2] in others]
            told = barred(drawing, ones, others, given)
            with self.subTest(shape=drawing.shape(), ones=ones, others=others, given=given):
                self.assertIs(type(told), tuple)
                self.assertEqual(len(told), 2)
                self.assertIs(told[0], not between)
                if told[0]:
                    self.check_standings(drawing, ones, others, given, told[1])
                else:
                    self.check_road(drawing, (ones, others, given), between, told[1])

    def check_standings(self, drawing, ones, others, given, standings):
        self.assertIs(type(standings), list)
        for standing in standings:
            self.assertEqual([type(part) for part in standing], [int, bool])
        self.assertTrue(is_shut_by_words(drawing, ones, others, given, standings))
        self.assertIs(is_shut(drawing, ones, others, given, standings), True)

    def check_road(self, drawing, sets, between, told):
        self.assertIs(type(told), tuple)
        road, ways = told
        self.assertEqual([type(part) for part in (road, ways)], [list, list])
        self.assertTrue(all(type(step) is tuple for step in road))
        self.assertIn(road, between)
        self.assertIn(ways, all_ways_down(drawing, road, sets[2]))
        self.assertIs(is_road(drawing, *sets, road, ways), True)

    def test_all_sets_of_drawings_with_few_names(self):
        for drawing in small_drawings() + some_drawings(4, 40, 4):
            self.check(drawing, triples(drawing.count))

    def test_some_sets_of_drawings_with_five_and_six_names(self):
        for count in (5, 6):
            for place, drawing in enumerate(some_drawings(count, 40, count)):
                sets = triples(count)
                self.check(drawing, sets[place % 11::len(sets) // 60])

    def test_thick_and_thin_drawings(self):
        for drawing in drawings_to_ask():
            sets = triples(drawing.count)
            self.check(drawing, sets[::len(sets) // 25 + 1])

    def test_written_out(self):
        chain = Drawing(3, [(0, 1), (1, 2)], [])
        self.assertEqual(barred(chain, (0,), (2,), ())[0], False)
        self.assertEqual(barred(chain, (0,), (2,), ()), (False, ([(0, "down", 1), (1, "down", 2)], [])))
        self.assertEqual(barred(chain, (2,), (0,), ()), (False, ([(2, "up", 1), (1, "up", 0)], [])))
        self.assertIs(barred(chain, (0,), (2,), (1,))[0], True)
        meeting = Drawing(4, [(0, 2), (1, 2), (2, 3)], [])
        self.assertIs(barred(meeting, (0,), (1,), ())[0], True)
        self.assertEqual(barred(meeting, (0,), (1,), (2,)), (False, ([(0, "down", 2), (2, "up", 1)], [[2]])))
        self.assertEqual(barred(meeting, (0,), (1,), (3,)), (False, ([(0, "down", 2), (2, "up", 1)], [[2, 3]])))
        deep = Drawing(6, [(0, 2), (1, 2), (2, 3), (3, 4), (4, 5)], [])
        road = [(1, "down", 2), (2, "up", 0)]
        self.assertEqual(barred(deep, (1,), (0,), (4,)), (False, (road, [[2, 3, 4]])))
        self.assertEqual(barred(deep, (1,), (0,), (5,)), (False, (road, [[2, 3, 4, 5]])))
        self.assertEqual(barred(deep, (1,), (0,), (3, 5)), (False, (road, [[2, 3]])))
        bows = Drawing(3, [], [(0, 1), (1, 2)])
        self.assertIs(barred(bows, (0,), (2,), ())[0], True)
        self.assertEqual(barred(bows, (0,), (2,), (1,)), (False, ([(0, "bow", 1), (1, "bow", 2)], [[1]])))
        self.assertEqual(barred(bows, (0,), (1,), (2,)), (False, ([(0, "bow", 1)], [])))

    def test_told_lists_are_the_askers_own(self):
        chain = Drawing(4, [(0, 2), (1, 2), (2, 3)], [(0, 3)])
        for sets in (((0,), (1,), ()), ((0,), (1,), (3,)), ((0, 2), (3,), (1,))):
            first = barred(chain, *sets)
            before = copy.deepcopy(first)
            second = barred(chain, *sets)
            if first[0]:
                first[1].clear()
            else:
                first[1][0].append((0, "up", 9))
                for way in first[1][1]:
                    way.append(9)
                first[1][1].append([7])
            self.assertEqual(second, before)
            self.assertEqual(barred(chain, *sets), before)
            self.assertEqual(chain.shape(), (4, ((0, 2), (1, 2), (2, 3)), ((0, 3),)))


class ShutTest(unittest.TestCase):
    def test_every_list_of_standings_of_three_names(self):
        standings = list(product(range(3), (False, True)))
        lists = [list(part) for size in range(7) for part in combinations(standings, size)]
        for drawing in [drawing for drawing in small_drawings() if drawing.count == 3]:
            for ones, others, given in triples(3):
                for part in lists:
                    wanted = is_shut_by_words(drawing, ones, others, given, part)
                    self.assertIs(is_shut(drawing, ones, others, given, part), wanted)

    def test_bent_lists(self):
        seen = []
        for drawing, (ones, others, given) in papers_to_bend():
            answer, standings = barred(drawing, ones, others, given)
            if not answer:
                continue
            before = list(standings)
            for place, standing in enumerate(before):
                rest = before[:place] + before[place + 1:]
                wanted = standing in rest or is_shut_by_words(drawing, ones, others, given, rest)
                seen.append(wanted)
                self.assertIs(is_shut(drawing, ones, others, given, rest), wanted)
                self.assertIs(is_shut(drawing, ones, others, given, rest + [standing, standing]), True)
            self.assertIs(is_shut(drawing, ones, others, given, before[::-1] + before), True)
            for more in product(range(-2, drawing.count + 2), (False, True)):
                wanted = is_shut_by_words(drawing, ones, others, given, before + [more])
                seen.append(wanted)
                self.assertIs(is_shut(drawing, ones, others, given, before + [more]), wanted)
                self.assertIs(is_shut(drawing, ones, others, given, [more] + before), wanted)
            for far in (10 ** 70, -10 ** 6000):
                self.assertIs(is_shut(drawing, ones, others, given, before + [(far, True)]), False)
            self.assertEqual(standings, before)
        self.assertEqual(set(seen), {True, False})

    def test_written_out(self):
        drawing = Drawing(4, [(0, 2), (1, 2), (2, 3)], [])
        good = [(0, False), (2, True), (3, True)]
        self.assertIs(is_shut(drawing, (0,), (1,), (), good), True)
        self.assertIs(is_shut(drawing, (0,), (1,), (), good[::-1]), True)
        self.assertIs(is_shut(drawing, (0,), (1,), (), good + [(2, True)]), True)
        self.assertIs(is_shut(drawing, (0,), (1,), (), good[:2]), False)
        self.assertIs(is_shut(drawing, (0,), (1,), (), good[1:]), False)
        self.assertIs(is_shut(drawing, (0,), (1,), (), good + [(1, True)]), False)
        self.assertIs(is_shut(drawing, (0,), (1,), (), good + [(4, True)]), False)
        self.assertIs(is_shut(drawing, (0,), (1,), (), []), False)
        self.assertIs(is_shut(drawing, (0,), (3,), (2,), [(0, False), (2, True), (1, False)]), True)
        self.assertIs(is_shut(drawing, (0,), (3,), (2,), [(0, False), (2, True)]), False)
        self.assertIs(is_shut(drawing, (0,), (3,), (2,), [(0, False), (2, True), (1, False), (2, False)]), True)


class RoadTest(unittest.TestCase):
    def is_road_by_words(self, drawing, sets, road, ways, roads):
        ones, others, given = sets
        if road not in roads or road[0][0] not in ones or road[-1][2] not in others:
            return False
        return is_open(drawing, road, given) and ways in all_ways_down(drawing, road, given)

    def test_every_road_and_all_its_ways(self):
        answers = {True: 0, False: 0}
        for count in (2, 3, 4, 5):
            for drawing in some_drawings(count, 30, 50 + count):
                roads = roads_of(drawing)
                sets = triples(count)
                for three in sets[::len(sets) // 12 + 1]:
                    for road in roads[::len(roads) // 60 + 1]:
                        lists = all_ways_down(drawing, road, three[2])[:4]
                        for ways in lists + [[[name] for name in meetings_of(road)]]:
                            wanted = self.is_road_by_words(drawing, three, road, ways, roads)
                            answers[wanted] += 1
                            self.assertIs(is_road(drawing, *three, road, ways), wanted)
        self.assertGreater(min(answers.values()), 200)

    def test_any_two_steps_over_three_names(self):
        steps = [step for step in product(range(3), ("down", "up", "bow", "Down", ""), range(3))]
        lists = [[step] for step in steps] + [[a, b] for a in steps for b in steps if a[2] == b[0] or b[0] == 1]
        for drawing in [drawing for drawing in small_drawings() if drawing.count == 3][5::11]:
            roads = roads_of(drawing)
            for sets in [
                ((0,), (2,), ()), ((2,), (0, 1), ()), ((0,), (1,), (2,)), ((1,), (2,), (0,)), ((0,), (2,), (1,)),
            ]:
                for road in lists:
                    for ways in ([], [[1]], [[2]], [[1, 2]]):
                        wanted = self.is_road_by_words(drawing, sets, road, ways, roads)
                        self.assertIs(is_road(drawing, *sets, road, ways), wanted)

    def bent_roads(self, road, chance, count):
        """The road with a step, a name or a kind bent, left out, doubled or put in."""
        yield []
        yield road[::-1]
        yield road + road
        yield road + [(road[-1][2], "up", road[0][0])]
        yield [(road[-1][2], "down", road[0][0])] + road
        for place, (start, kind, to) in enumerate(road):
            yield road[:place] + road[place + 1:]
            for other in ("down", "up", "bow", "", "side", "DOWN", "down "):
                yield road[:place] + [(start, other, to)] + road[place + 1:]
            for name in list(range(-1, count + 2)) + [10 ** 70]:
                yield road[:place] + [(name, kind, to)] + road[place + 1:]
                yield road[:place] + [(start, kind, name)] + road[place + 1:]
                two_steps = [(start, kind, name), (name, chance.choice(("up", "down", "bow")), to)]
                yield road[:place] + two_steps + road[place + 1:]

    def bent_ways(self, ways, count):
        yield ways + [[]]
        yield ways + [[0]]
        yield ways[1:]
        yield ways[::-1]
        for place, way in enumerate(ways):
            yield ways[:place] + [[]] + ways[place + 1:]
            yield ways[:place] + [way[1:]] + ways[place + 1:]
            yield ways[:place] + [way[:-1]] + ways[place + 1:]
            for name in range(-1, count + 2):
                for at in range(len(way)):
                    yield ways[:place] + [way[:at] + [name] + way[at + 1:]] + ways[place + 1:]
                    yield ways[:place] + [way[:at + 1] + [name] + way[at + 1:]] + ways[place + 1:]

    def test_bent_roads_and_ways(self):
        chance = Random(9)
        met = {}
        for count in range(2, 7):
            for drawing, sets, road, several in open_papers(count, 14, 70 + count, 1)[::2]:
                roads = roads_of(drawing)
                ways = several[-1]
                met[len(ways)] = met.get(len(ways), 0) + 1
                self.assertIs(is_road(drawing, *sets, road, ways), True)
                bent = [(other, ways) for other in self.bent_roads(road, chance, drawing.count)]
                bent += [(road, other) for other in self.bent_ways(ways, drawing.count)]
                for steps, lists in bent:
                    handed = copy.deepcopy((steps, lists))
                    wanted = self.is_road_by_words(drawing, sets, steps, lists, roads)
                    with self.subTest(shape=drawing.shape(), sets=sets, road=steps, ways=lists):
                        self.assertIs(is_road(drawing, *sets, steps, lists), wanted)
                        self.assertEqual((steps, lists), handed)
        self.assertGreater(min(met[0], met[1], met[2]), 5)

    def test_written_out(self):
        drawing = Drawing(5, [(0, 2), (1, 2), (2, 3), (3, 4)], [(1, 4)])
        road = [(0, "down", 2), (2, "up", 1)]
        self.assertIs(is_road(drawing, (0,), (1,), (2,), road, [[2]]), True)
        self.assertIs(is_road(drawing, (0,), (1,), (4,), road, [[2, 3, 4]]), True)
        self.assertIs(is_road(drawing, (0,), (1,), (3, 4), road, [[2, 3]]), True)
        self.assertIs(is_road(drawing, (0,), (1,), (3, 4), road, [[2, 3, 4]]), False)
        self.assertIs(is_road(drawing, (0,), (1,), (4,), road, [[2, 3]]), False)
        self.assertIs(is_road(drawing, (0,), (1,), (4,), road, [[2, 4]]), False)
        self.assertIs(is_road(drawing, (0,), (1,), (4,), road, []), False)
        self.assertIs(is_road(drawing, (0,), (1,), (4,), road, [[2, 3, 4], [2, 3, 4]]), False)
        self.assertIs(is_road(drawing, (0,), (1,), (), road, []), False)
        self.assertIs(is_road(drawing, (0,), (1,), (), road, [[2]]), False)
        self.assertIs(is_road(drawing, (1,), (0,), (2,), road, [[2]]), False)
        self.assertIs(is_road(drawing, (0,), (4,), (2,), road + [(1, "bow", 4)], [[2]]), True)
        self.assertIs(is_road(drawing, (0,), (4,), (1, 2), road + [(1, "bow", 4)], [[2]]), False)
        self.assertIs(is_road(drawing, (0, 1), (4,), (2,), road + [(1, "bow", 4)], [[2]]), True)
        self.assertIs(is_road(drawing, (0,), (2,), (), [(0, "down", 2)], []), True)
        self.assertIs(is_road(drawing, (0,), (2,), (), [(0, "down", 2), (2, "up", 0), (0, "down", 2)], [[0]]), False)

    def test_ends_that_are_given(self):
        drawing = Drawing(3, [(0, 1), (1, 2)], [(0, 2)])
        for sets in (((0,), (2,), (0,)), ((0,), (2,), (2,)), ((0,), (2,), (0, 1, 2))):
            self.assertIs(refusal(is_road, drawing, *sets, [(0, "bow", 2)], []), NoSets)
        self.assertIs(is_road(drawing, (0,), (1,), (2,), [(0, "bow", 2)], []), False)
        self.assertIs(is_road(drawing, (1,), (2,), (0,), [(0, "bow", 2)], []), False)


class RefusedTest(unittest.TestCase):
    def test_what_is_no_set(self):
        drawing = Drawing(6, [(0, 1), (1, 2)], [(3, 4)])
        for wrong in NO_SETS:
            for right in ((), (0,), (0, 1)):
                for sets in ((wrong, (2,), right), ((2,), wrong, right), ((2,), right, wrong), (wrong, wrong, wrong)):
                    self.assertEqual(ask_all(drawing, *sets), {NoName})

    def test_no_name_is_ahead_of_no_sets(self):
        drawing = Drawing(3, [(0, 1)], [])
        for sets in (((0,), (0,), (3,)), ((), (1,), (0, 0)), ((0,), (), (1, 0)), ((), (), (-1,)), ((3,), (), ())):
            self.assertEqual(ask_all(drawing, *sets), {NoName})

    def test_common_names_and_empty_sets(self):
        drawing = Drawing(4, [(0, 1)], [(2, 3)])
        for sets in [
            ((0,), (0,), ()), ((0, 1), (1, 2), ()), ((0,), (1,), (0,)), ((0,), (1, 2), (2, 3)), ((), (1,), ()),
            ((0,), (), ()), ((), (), ()), ((), (), (1,)), ((), (1,), (1,)), ((0, 1, 2, 3), (0, 1, 2, 3), (0, 1, 2, 3)),
        ]:
            self.assertEqual(ask_all(drawing, *sets), {NoSets})

    def test_the_refusals_do_not_hang_on_the_papers(self):
        drawing = Drawing(3, [(0, 1)], [])
        for papers in ([], [(9, True)], [(0, False), (1, True)]):
            self.assertIs(refusal(is_shut, drawing, (0,), (0,), (), papers), NoSets)
            self.assertIs(refusal(is_shut, drawing, (0,), (3,), (), papers), NoName)
        for road in ([], [(0, "down", 1)], [(0, "", 9)]):
            self.assertIs(refusal(is_road, drawing, (0,), (0, 1), (), road, [[8]]), NoSets)
            self.assertIs(refusal(is_road, drawing, (0,), (1,), (5,), road, [[8]]), NoName)


if __name__ == "__main__":
    unittest.main()
