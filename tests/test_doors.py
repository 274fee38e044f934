"""Points 38 to 41, and of points 1 and 5 what they say of them: doingbook/doors.py."""

import unittest

from doingbook.doors import back_doors, back_formula, front_doors, front_formula, is_back_door, is_front_door
from doingbook.drawings import Drawing
from doingbook.errors import NoDoor, NoName, NoSets
from doingbook.formulas import worth
from doingbook.setting import set_share
from tests.support import (
    NO_SETS, all_pairs, all_sets, all_values, cut_by_words, is_barred_by_words, refusal, roads_of, small_drawings,
    some_drawings, triples, union, world_of,
)

# The first name works on the last by way of the second; something hidden lies under the first and the last.
FRONT = Drawing(3, [(0, 1), (1, 2)], [(0, 2)])
# The first name works on the two others, and the second one on the last.
BACK = Drawing(3, [(0, 1), (0, 2), (1, 2)], [])


def back_conditions(drawing, one, other, door):
    """Each condition of a back door, by the words of point 38."""
    below = set(one)
    for u, v in drawing.ties:
        if u in below:
            below.add(v)
    return {
        "no name is a descendant": not below & set(door),
        "the ones are barred from the others": is_barred_by_words(
            cut_by_words(drawing.shape(), (), one), one, other, door
        ),
    }


def down_roads(drawing, one, other):
    roads = [road for road in roads_of(drawing) if road[0][0] in one and road[-1][2] in other]
    return [road for road in roads if all(kind == "down" for start, kind, to in road)]


def front_conditions(drawing, one, other, door):
    told = {
        "each road down comes to it": all(
            set(door) & {name for start, kind, to in road for name in (start, to)}
            for road in down_roads(drawing, one, other)
        ),
    }
    if door:
        cut_ones, cut_door = [cut_by_words(drawing.shape(), (), names) for names in (one, door)]
        told["the ones are barred from it"] = is_barred_by_words(cut_ones, one, door, ())
        told["it is barred from the others"] = is_barred_by_words(cut_door, door, other, one)
    return told


def least_by_words(drawing, one, other, conditions):
    rest = set(range(drawing.count)) - set(one) - set(other)
    doors = [names for names in all_sets(drawing.count) if set(names) <= rest]
    doors = [names for names in doors if all(conditions(drawing, one, other, names).values())]
    least = [names for names in doors if not any(set(smaller) < set(names) for smaller in doors)]
    return sorted(least, key=lambda names: (len(names), names))


def pairs_of_sets(count):
    """Every two sets that point 39 lets in."""
    return [(one, other) for one, other, rest in triples(count) if not rest]


def some_of(several, turn, most):
    return several[turn % 7::len(several) // most + 1] if len(several) > most else several


def thin_drawings(count, times):
    """Drawings in which names work on the next one or the one behind that, with few bows: front doors are common."""
    pairs = all_pairs(count)
    told = []
    for turn in range(times):
        ties = [(u, v) for u, v in pairs if v - u == 1 and turn % 3 or v - u == 2 and turn % 2]
        told.append(Drawing(count, ties, pairs[turn % 5 % len(pairs)::4 + turn % 3][:2]))
    return told


class IsDoorTest(unittest.TestCase):
    def check_several(self, drawings, most, is_door, conditions):
        """How often which conditions failed, apart for the empty set and others."""
        failed = {}
        for turn, drawing in enumerate(drawings):
            for one, other, door in some_of(triples(drawing.count), turn, most):
                told = conditions(drawing, one, other, door)
                wrong = tuple(words for words, holds in told.items() if not holds)
                failed[(wrong, door == ())] = failed.get((wrong, door == ()), 0) + 1
                with self.subTest(shape=drawing.shape(), one=one, other=other, door=door):
                    self.assertIs(is_door(drawing, one, other, door), wrong == ())
        return failed

    def check_failed(self, failed, conditions):
        """Doors have been there, and sets for which each condition alone failed."""
        self.assertGreater(min(failed[((), True)], failed[((), False)]), 10)
        for words in conditions(BACK, (0,), (2,), (1,)):
            self.assertGreater(failed[((words,), False)], 5)

    def test_every_back_door_of_drawings_with_few_names(self):
        failed = self.check_several(small_drawings(), 100, is_back_door, back_conditions)
        self.check_failed(failed, back_conditions)
        self.assertGreater(failed[(("the ones are barred from the others",), True)], 10)

    def test_every_front_door_of_drawings_with_few_names(self):
        failed = self.check_several(small_drawings(), 100, is_front_door, front_conditions)
        self.check_failed(failed, front_conditions)
        self.assertGreater(failed[(("each road down comes to it",), True)], 10)

    def test_some_doors_of_drawings_with_many_names(self):
        for is_door, conditions in ((is_back_door, back_conditions), (is_front_door, front_conditions)):
            failed = {}
            for count, times in ((4, 24), (5, 20), (6, 16)):
                told = self.check_several(some_drawings(count, times, 1000 + count), 30, is_door, conditions)
                for key, many in told.items():
                    failed[key] = failed.get(key, 0) + many
            self.check_failed(failed, conditions)

    def test_back_doors_written_out(self):
        self.assertIs(is_back_door(BACK, (1,), (2,), (0,)), True)
        self.assertIs(is_back_door(BACK, (1,), (2,), ()), False)
        self.assertIs(is_back_door(BACK, (0,), (2,), ()), True)
        self.assertIs(is_back_door(BACK, (0,), (2,), (1,)), False)
        self.assertIs(is_back_door(FRONT, (0,), (2,), ()), False)
        self.assertIs(is_back_door(FRONT, (0,), (2,), (1,)), False)
        self.assertIs(is_back_door(FRONT, (1,), (2,), (0,)), True)
        # Two hidden ones meet in a name, which opens a road once it is given.
        meeting = Drawing(3, [(1, 2)], [(0, 1), (0, 2)])
        self.assertIs(is_back_door(meeting, (1,), (2,), ()), True)
        self.assertIs(is_back_door(meeting, (1,), (2,), (0,)), False)
        self.assertIs(is_back_door(BACK, (0, 1), (2,), ()), True)
        self.assertIs(is_back_door(Drawing(4, [(0, 1), (0, 3), (2, 3), (1, 3)], [(1, 2)]), (1,), (3,), (0, 2)), True)

    def test_front_doors_written_out(self):
        self.assertIs(is_front_door(FRONT, (0,), (2,), (1,)), True)
        self.assertIs(is_front_door(FRONT, (0,), (2,), ()), False)
        self.assertIs(is_front_door(BACK, (0,), (2,), (1,)), False)
        self.assertIs(is_front_door(Drawing(3, [(0, 1), (1, 2)], [(0, 1)]), (0,), (2,), (1,)), False)
        self.assertIs(is_front_door(Drawing(3, [(0, 1), (1, 2)], [(1, 2)]), (0,), (2,), (1,)), False)
        self.assertIs(is_front_door(Drawing(3, [(0, 1), (0, 2), (1, 2)], [(0, 2)]), (0,), (2,), (1,)), False)
        # No road leads down: then the empty set is a front door, whatever lies hidden.
        self.assertIs(is_front_door(Drawing(2, [], [(0, 1)]), (0,), (1,), ()), True)
        self.assertIs(is_front_door(Drawing(2, [(0, 1)], []), (1,), (0,), ()), True)
        self.assertIs(is_front_door(Drawing(4, [(0, 1), (0, 2), (1, 3), (2, 3)], [(0, 3)]), (0,), (3,), (1, 2)), True)
        self.assertIs(is_front_door(Drawing(4, [(0, 1), (0, 2), (1, 3), (2, 3)], [(0, 3)]), (0,), (3,), (1,)), False)
        # The way down goes over another one of the first names, or of the others.
        row = Drawing(4, [(0, 1), (1, 2), (2, 3)], [])
        self.assertIs(is_front_door(row, (0, 1), (3,), (2,)), True)
        self.assertIs(is_front_door(row, (0,), (2, 3), (1,)), True)
        self.assertIs(is_front_door(row, (0, 2), (3,), (1,)), False)


class LeastDoorsTest(unittest.TestCase):
    def check_several(self, drawings, most, told_doors, conditions):
        """How many doors were told, and how long."""
        counts, lengths = {}, {}
        for turn, drawing in enumerate(drawings):
            for one, other in some_of(pairs_of_sets(drawing.count), turn, most):
                with self.subTest(shape=drawing.shape(), one=one, other=other):
                    told = told_doors(drawing, one, other)
                    self.assertIs(type(told), list)
                    self.assertEqual(told, least_by_words(drawing, one, other, conditions))
                counts[len(told)] = counts.get(len(told), 0) + 1
                for door in told:
                    lengths[len(door)] = lengths.get(len(door), 0) + 1
        return counts, lengths

    def test_least_back_doors(self):
        counts, lengths = self.check_several(small_drawings(), 100, back_doors, back_conditions)
        self.assertGreater(min(counts[0], counts[1], lengths[0], lengths[1]), 10)
        for count, times in ((4, 30), (5, 24), (6, 20)):
            several = self.check_several(some_drawings(count, times, 1020 + count), 12, back_doors, back_conditions)
            self.assertGreater(min(several[0][0], several[0][1], several[1][0], several[1][1]), 3)

    def test_least_front_doors(self):
        counts, lengths = self.check_several(small_drawings(), 100, front_doors, front_conditions)
        self.assertGreater(min(counts[0], counts[1], lengths[0]), 10)
        self.assertGreater(lengths[1], 1)
        for count, times in ((4, 20), (5, 16), (6, 12)):
            counts, lengths = self.check_several(thin_drawings(count, times), 30, front_doors, front_conditions)
            with self.subTest(counts=counts, lengths=lengths):
                self.assertGreater(min(counts[0], counts[1], lengths[0], lengths[1]), 5)
                self.assertGreater(counts[2], 0)
        two_ways = [(0, 1), (0, 2), (1, 3), (2, 4), (3, 5), (4, 5)]
        several = [Drawing(6, two_ways, [bow]) for bow in all_pairs(6)]
        counts, lengths = self.check_several(several, 700, front_doors, front_conditions)
        self.assertGreater(min(counts[2], lengths[1], lengths[2]), 3)
        self.assertGreater(counts[4], 0)

    def test_the_order(self):
        # From the fourth name to the last: the first bars alone, the others only two by two.
        drawing = Drawing(6, [(0, 1), (0, 2), (0, 3), (1, 4), (2, 4), (3, 5), (4, 5)], [])
        self.assertEqual(back_doors(drawing, (3,), (5,)), [(0,), (4,), (1, 2)])
        # Two ways lead down, each over two names one behind the other.
        drawing = Drawing(6, [(0, 1), (0, 2), (1, 3), (2, 4), (3, 5), (4, 5)], [])
        self.assertEqual(front_doors(drawing, (0,), (5,)), [(1, 2), (1, 4), (2, 3), (3, 4)])
        self.assertEqual(back_doors(drawing, (0,), (5,)), [()])

    def test_none_is_there(self):
        self.assertEqual(back_doors(FRONT, (0,), (2,)), [])
        self.assertEqual(front_doors(FRONT, (0,), (2,)), [(1,)])
        self.assertEqual(front_doors(BACK, (0,), (2,)), [])
        self.assertEqual(front_doors(Drawing(1 + 1, [(0, 1)], []), (0,), (1,)), [])
        self.assertEqual(back_doors(Drawing(2, [(0, 1)], []), (0,), (1,)), [()])
        self.assertEqual(back_doors(Drawing(2, [], [(0, 1)]), (0,), (1,)), [])

    def test_told_lists_are_the_askers_own(self):
        for told_doors, drawing in ((back_doors, BACK), (front_doors, FRONT)):
            first = told_doors(drawing, (0,), (2,))
            kept = list(first)
            first.append((1, 2))
            first[0] = ()
            self.assertEqual(told_doors(drawing, (0,), (2,)), kept)


def back_by_words(one, other, door):
    """By point 40."""
    inner = ("times", ("over", ("seen", union(one, other, door)), ("seen", union(one, door))), ("seen", door))
    return ("sum", door, inner) if door else inner


def front_by_words(one, other, door):
    behind = ("times", ("over", ("seen", union(one, other, door)), ("seen", union(one, door))), ("seen", one))
    inner = ("times", ("over", ("seen", union(one, door)), ("seen", one)), ("sum", one, behind))
    return ("sum", door, inner) if door else inner


class FormulaTest(unittest.TestCase):
    def test_back_formulas(self):
        told = {True: 0, False: 0, None: 0}
        for turn, drawing in enumerate(small_drawings() + some_drawings(4, 20, 1060) + some_drawings(6, 20, 1061)):
            for one, other, door in some_of(triples(drawing.count), turn, 40):
                with self.subTest(shape=drawing.shape(), one=one, other=other, door=door):
                    if all(back_conditions(drawing, one, other, door).values()):
                        told[door == ()] += 1
                        self.assertEqual(back_formula(drawing, one, other, door), back_by_words(one, other, door))
                    else:
                        told[None] += 1
                        self.assertIs(refusal(back_formula, drawing, one, other, door), NoDoor)
        self.assertGreater(min(told.values()), 100)

    def test_front_formulas(self):
        told = {True: 0, False: 0, None: 0}
        for turn, drawing in enumerate(small_drawings() + some_drawings(4, 20, 1062) + some_drawings(6, 20, 1063)):
            for one, other, door in some_of(triples(drawing.count), turn, 40):
                with self.subTest(shape=drawing.shape(), one=one, other=other, door=door):
                    if len(one) > 1:
                        self.assertIs(refusal(front_formula, drawing, one, other, door), NoSets)
                    elif all(front_conditions(drawing, one, other, door).values()):
                        told[door == ()] += 1
                        self.assertEqual(front_formula(drawing, one, other, door), front_by_words(one, other, door))
                    else:
                        told[None] += 1
                        self.assertIs(refusal(front_formula, drawing, one, other, door), NoDoor)
        self.assertGreater(min(told.values()), 50)

    def test_written_out(self):
        given = ("over", ("seen", (0, 1, 2)), ("seen", (0, 1)))
        self.assertEqual(back_formula(BACK, (1,), (2,), (0,)), ("sum", (0,), ("times", given, ("seen", (0,)))))
        given = ("over", ("seen", (0, 2)), ("seen", (0,)))
        self.assertEqual(back_formula(BACK, (0,), (2,), ()), ("times", given, ("seen", ())))
        behind = ("sum", (0,), ("times", ("over", ("seen", (0, 1, 2)), ("seen", (0, 1))), ("seen", (0,))))
        ahead = ("over", ("seen", (0, 1)), ("seen", (0,)))
        self.assertEqual(front_formula(FRONT, (0,), (2,), (1,)), ("sum", (1,), ("times", ahead, behind)))
        behind = ("sum", (1,), ("times", ("over", ("seen", (0, 1)), ("seen", (1,))), ("seen", (1,))))
        same = ("over", ("seen", (1,)), ("seen", (1,)))
        self.assertEqual(front_formula(Drawing(2, [], [(0, 1)]), (1,), (0,), ()), ("times", same, behind))


class RefusedTest(unittest.TestCase):
    def test_no_name_is_first(self):
        drawing = Drawing(6, all_pairs(6), [])
        for wrong in NO_SETS:
            for sets in [(wrong, (1,)), ((0,), wrong), (wrong, ()), ((), wrong), (wrong, wrong)]:
                for call in (back_doors, front_doors):
                    self.assertIs(refusal(call, drawing, *sets), NoName)
                for call in (is_back_door, is_front_door, back_formula, front_formula):
                    self.assertIs(refusal(call, drawing, *sets, ()), NoName)
                    self.assertIs(refusal(call, drawing, *sets, (0, 1)), NoName)
            for call in (is_back_door, is_front_door, back_formula, front_formula):
                for sets in [((0,), (1,)), ((), ()), ((0, 1), (1,)), ((0, 1), (2,))]:
                    self.assertIs(refusal(call, drawing, *sets, wrong), NoName)

    def test_no_sets(self):
        for drawing in (FRONT, BACK):
            for sets in [((0,), (0,)), ((0, 1), (1, 2)), ((), (1,)), ((0,), ()), ((), ())]:
                for call in (back_doors, front_doors):
                    self.assertIs(refusal(call, drawing, *sets), NoSets)
                for call in (is_back_door, is_front_door, back_formula, front_formula):
                    self.assertIs(refusal(call, drawing, *sets, ()), NoSets)
            for sets in [((0,), (1,), (0,)), ((0,), (1,), (1, 2)), ((), (1,), (2,)), ((0,), (), (1,))]:
                for call in (is_back_door, is_front_door, back_formula, front_formula):
                    self.assertIs(refusal(call, drawing, *sets), NoSets)

    def test_more_names_are_refused_ahead_of_what_is_no_door(self):
        row = Drawing(4, [(0, 1), (1, 2), (2, 3)], [])
        self.assertIs(is_front_door(row, (0, 1), (3,), (2,)), True)
        self.assertIs(refusal(front_formula, row, (0, 1), (3,), (2,)), NoSets)
        self.assertIs(refusal(front_formula, row, (0, 1), (3,), ()), NoSets)
        self.assertIs(refusal(front_formula, row, (0,), (3,), ()), NoDoor)


class RightTest(unittest.TestCase):
    """Point 41."""

    def check(self, world, one, other, formula):
        table = world.seen()
        for way in all_values(world.sizes):
            values = dict(enumerate(way))
            on = [tuple(values[name] for name in names) for names in (one, other)]
            self.assertEqual(worth(formula, world.sizes, table, values), set_share(world, one, on[0], other, on[1]))

    def check_several(self, conditions, formula_of_door, most_names):
        told = {}
        for count, times, most in ((2, 12, 12), (3, 24, 50), (4, 16, 40), (5, 8, 40), (6, 4, 60)):
            for turn, drawing in enumerate(some_drawings(count, times, 1080 + count)):
                doors = [sets for sets in triples(count) if len(sets[0]) <= most_names]
                doors = [sets for sets in some_of(doors, turn, most) if all(conditions(drawing, *sets).values())]
                if doors:
                    world = world_of(drawing, turn, 3 if count < 4 else 2, 2)
                    self.assertIs(world.full(), True)
                for one, other, door in doors:
                    told[len(door)] = told.get(len(door), 0) + 1
                    with self.subTest(shape=drawing.shape(), one=one, other=other, door=door):
                        self.check(world, one, other, formula_of_door(drawing, one, other, door))
        self.assertGreater(min(told[0], told[1]), 20)
        self.assertGreater(told[2], 3)

    def test_back_doors_in_full_worlds_for_all_values(self):
        self.check_several(back_conditions, back_formula, 6)

    def test_front_doors_in_full_worlds_for_all_values(self):
        self.check_several(front_conditions, front_formula, 1)


if __name__ == "__main__":
    unittest.main()
