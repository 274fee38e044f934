"""Points 1 and 3 to 8: doingbook/drawings.py."""

import copy
import unittest
from itertools import permutations, product

from doingbook.drawings import Drawing
from doingbook.errors import NoBow, NoCount, NoName, NoTie
from tests.support import all_pairs, all_sets, drawings_to_ask, large_drawings, refusal, small_drawings

FAR = 10 ** 70
# Beyond what Python writes out: a refusal must not stumble over its own words.
BEYOND_WRITING = 10 ** 6000
NO_COUNTS = [0, 7, -1, 8, -6, 100, FAR, -FAR, BEYOND_WRITING]
NO_PAIRS = [
    (1, 0), (5, 0), (3, 2), (0, 0), (5, 5), (-1, 0), (-1, 5), (-2, -1), (0, 6), (5, 6), (6, 7), (0, FAR), (-FAR, 1),
    (0, BEYOND_WRITING), (), (0,), (1,), (0, 1, 2), (0, 1, 1), (0, 0, 1), (0, 1, 2, 3),
]
SET_METHODS = ["ancestors", "descendants", "lumps", "part", "cut_in", "cut_out"]
NAME_METHODS = ["sources", "followers", "bowed"]
SEVEN = [(0, 1), (0, 2), (0, 3), (0, 4), (0, 5), (1, 2), (1, 3)]


class MakingTest(unittest.TestCase):
    def test_one_name(self):
        drawing = Drawing(1, [], [])
        self.assertEqual(drawing.shape(), (1, (), ()))
        self.assertEqual((drawing.sources(0), drawing.followers(0)), ((), ()))

    def test_six_names_with_every_tie_and_six_bows(self):
        pairs = all_pairs(6)
        drawing = Drawing(6, pairs, pairs[:6])
        self.assertEqual(drawing.shape(), (6, tuple(pairs), tuple(pairs[:6])))

    def test_every_count_from_one_to_six(self):
        for count in range(1, 7):
            drawing = Drawing(count, [], [])
            self.assertEqual(drawing.count, count)
            self.assertEqual((drawing.ties, drawing.bows), ((), ()))

    def test_between_two_names_tie_bow_both_or_none(self):
        for pair in all_pairs(4):
            for ties in ([], [pair]):
                for bows in ([], [pair]):
                    drawing = Drawing(4, ties, bows)
                    self.assertEqual(drawing.shape(), (4, tuple(ties), tuple(bows)))

    def test_any_order_comes_to_rising_ties_and_bows(self):
        pairs = [(0, 3), (0, 1), (2, 3), (1, 2)]
        for ties in permutations(pairs):
            for bows in ([(1, 3), (0, 2), (0, 1)], [(0, 1), (1, 3), (0, 2)]):
                drawing = Drawing(4, list(ties), bows)
                self.assertEqual(drawing.ties, ((0, 1), (0, 3), (1, 2), (2, 3)))
                self.assertEqual(drawing.bows, ((0, 1), (0, 2), (1, 3)))

    def test_lists_and_tuples_are_told_as_tuples_of_tuples(self):
        for outer, inner, other in product((list, tuple), repeat=3):
            ties = outer([inner((1, 2)), other((0, 2))])
            bows = outer([other((1, 2)), inner((0, 1))])
            drawing = Drawing(3, ties, bows)
            self.assertEqual(drawing.shape(), (3, ((0, 2), (1, 2)), ((0, 1), (1, 2))))
            for told in (drawing.ties, drawing.bows):
                self.assertIs(type(told), tuple)
                self.assertEqual([type(pair) for pair in told], [tuple, tuple])

    def test_shape_is_a_tuple_of_the_fields(self):
        for drawing in drawings_to_ask():
            self.assertIs(type(drawing.shape()), tuple)
            self.assertEqual(drawing.shape(), (drawing.count, drawing.ties, drawing.bows))


class RefusedTest(unittest.TestCase):
    def test_counts(self):
        for count in NO_COUNTS:
            self.assertIs(refusal(Drawing, count, [], []), NoCount)

    def test_ties_and_bows_that_are_no_pairs(self):
        for pair in NO_PAIRS:
            for wrong in (pair, list(pair)):
                for pairs in ([wrong], [(2, 3), wrong], [wrong, (2, 3)], ((2, 3), wrong, [3, 4])):
                    with self.subTest(length=len(pair), at=NO_PAIRS.index(pair)):
                        self.assertIs(refusal(Drawing, 6, pairs, []), NoTie)
                        self.assertIs(refusal(Drawing, 6, [], pairs), NoBow)

    def test_names_are_those_of_the_count(self):
        for count in range(1, 7):
            for pair in product(range(-2, 9), repeat=2):
                good = 0 <= pair[0] < pair[1] <= count - 1
                with self.subTest(count=count, pair=pair):
                    self.assertIs(refusal(Drawing, count, [pair], []), None if good else NoTie)
                    self.assertIs(refusal(Drawing, count, [], [pair]), None if good else NoBow)

    def test_pairs_that_stand_twice(self):
        for twice in ([(0, 1), (0, 1)], [(0, 1), [0, 1]], [[0, 1], (1, 2), [0, 1]], [(1, 2), (0, 1), (0, 2), (1, 2)]):
            self.assertIs(refusal(Drawing, 3, twice, []), NoTie)
            self.assertIs(refusal(Drawing, 3, [], twice), NoBow)

    def test_at_most_six_bows_but_any_number_of_ties(self):
        self.assertIs(refusal(Drawing, 6, [], SEVEN), NoBow)
        self.assertIs(refusal(Drawing, 6, [], all_pairs(6)), NoBow)
        for missing in SEVEN:
            self.assertIsNone(refusal(Drawing, 6, [], [pair for pair in SEVEN if pair != missing]))
        self.assertIsNone(refusal(Drawing, 6, SEVEN, []))
        self.assertIsNone(refusal(Drawing, 6, all_pairs(6), all_pairs(4)))

    def test_several_faults_in_the_order_told(self):
        faults = [[(1, 0)], [(0, 0)], [(0, 6)], [(0,)], [(0, 1, 2)], [(0, 1), (0, 1)]]
        bow_faults = faults + [SEVEN, SEVEN + [(1, 0)], SEVEN + SEVEN]
        for ties in faults:
            for bows in bow_faults:
                with self.subTest(ties=ties, bows=bows):
                    self.assertIs(refusal(Drawing, 6, ties, bows), NoTie)
                    self.assertIs(refusal(Drawing, 6, [(0, 1)], bows), NoBow)
                    for count in NO_COUNTS:
                        self.assertIs(refusal(Drawing, count, ties, bows), NoCount)
                        self.assertIs(refusal(Drawing, count, ties, []), NoCount)
                        self.assertIs(refusal(Drawing, count, [], bows), NoCount)


class OwnTest(unittest.TestCase):
    def test_what_is_handed_in_stays_as_it_was(self):
        good = ([[2, 3], (0, 1)], [[1, 2], [0, 3]])
        for count, ties, bows in [(4, *good), (9, *good), (3, *good), (4, good[0], [[1, 0]]), (6, [], SEVEN)]:
            before = copy.deepcopy((ties, bows))
            refusal(Drawing, count, ties, bows)
            self.assertEqual((ties, bows), before)

    def test_changed_later_it_changes_nothing(self):
        ties = [[2, 3], [0, 1]]
        bows = [[1, 2], [0, 3]]
        drawing = Drawing(4, ties, bows)
        others = [drawing.part((0, 1, 2, 3)), drawing.cut_in(()), drawing.cut_out(())]
        for pairs in (ties, bows):
            pairs[0][0] = 0
            pairs[1].append(7)
            pairs.append([1, 3])
        for told in [drawing] + others:
            self.assertEqual(told.shape(), (4, ((0, 1), (2, 3)), ((0, 3), (1, 2))))
        self.assertEqual(drawing.lumps((0, 1, 2, 3)), [(0, 3), (1, 2)])
        self.assertEqual(drawing.sources(3), (2,))

    def test_told_lists_are_the_askers_own(self):
        drawing = Drawing(4, [(0, 1)], [(0, 3), (1, 2)])
        first = drawing.lumps((0, 1, 2, 3))
        second = drawing.lumps((0, 1, 2, 3))
        first.append((5,))
        first[0] = ()
        self.assertEqual(second, [(0, 3), (1, 2)])
        self.assertEqual(drawing.lumps((0, 1, 2, 3)), [(0, 3), (1, 2)])
        self.assertEqual(drawing.shape(), (4, ((0, 1),), ((0, 3), (1, 2))))

    def test_asking_changes_nothing(self):
        for drawing in large_drawings():
            shape = drawing.shape()
            for names in all_sets(drawing.count):
                for method in SET_METHODS:
                    getattr(drawing, method)(names)
            self.assertEqual(drawing.shape(), shape)


class SetsTest(unittest.TestCase):
    def check_sets(self, drawing, tuples):
        for names in tuples:
            good = list(names) == sorted(set(names) & set(range(drawing.count)))
            for method in SET_METHODS:
                with self.subTest(count=drawing.count, names=len(names), method=method):
                    self.assertIs(refusal(getattr(drawing, method), names), None if good else NoName)

    def test_tuples_of_up_to_three_numbers(self):
        for count in (1, 2, 3, 6):
            drawing = Drawing(count, [], [])
            for length in range(4):
                self.check_sets(drawing, product(range(-2, count + 2), repeat=length))

    def test_tuples_that_are_no_set(self):
        drawing = Drawing(6, all_pairs(6), SEVEN[:6])
        tuples = [
            (-1,), (6,), (FAR,), (-FAR,), (BEYOND_WRITING,), (-1, 0, 1), (0, 1, 6), (0, 0), (0, 1, 1), (2, 2, 3),
            (1, 0), (0, 2, 1), (5, 4, 3, 2, 1, 0), (0, 1, 2, 3, 4, 5, 5), (0, 1, 2, 3, 4, 5, 6), (-1, 0, 1, 2, 3, 4),
        ]
        for names in tuples:
            for method in SET_METHODS:
                self.assertIs(refusal(getattr(drawing, method), names), NoName)

    def test_every_set_is_let_in(self):
        for drawing in large_drawings():
            self.check_sets(drawing, all_sets(drawing.count))

    def test_numbers_that_are_no_name(self):
        for drawing in small_drawings() + large_drawings():
            for method in NAME_METHODS:
                for name in range(drawing.count):
                    self.assertIsNone(refusal(getattr(drawing, method), name))
                for name in (-1, -2, -drawing.count, drawing.count, drawing.count + 1, FAR, -FAR, BEYOND_WRITING):
                    self.assertIs(refusal(getattr(drawing, method), name), NoName)


def leads_down(drawing, row):
    return all((row[k], row[k + 1]) in drawing.ties for k in range(len(row) - 1))


def rows_down(drawing):
    """Every row of names each of which is a follower of the one ahead; such a row is rising, so it is a set."""
    return [names for names in all_sets(drawing.count) if names and leads_down(drawing, names)]


class KinTest(unittest.TestCase):
    def test_sources_and_followers(self):
        for drawing in drawings_to_ask():
            names = range(drawing.count)
            for name in names:
                self.assertEqual(drawing.sources(name), tuple(u for u in names if (u, name) in drawing.ties))
                self.assertEqual(drawing.followers(name), tuple(v for v in names if (name, v) in drawing.ties))

    def test_names_with_a_bow_to_a_name(self):
        for drawing in drawings_to_ask():
            names = range(drawing.count)
            for name in names:
                wanted = tuple(n for n in names if (n, name) in drawing.bows or (name, n) in drawing.bows)
                self.assertEqual(drawing.bowed(name), wanted)

    def test_ancestors_and_descendants_by_rows(self):
        for drawing in drawings_to_ask():
            rows = rows_down(drawing)
            for names in all_sets(drawing.count):
                with self.subTest(shape=drawing.shape(), names=names):
                    up = tuple(sorted({row[0] for row in rows if row[-1] in names}))
                    down = tuple(sorted({row[-1] for row in rows if row[0] in names}))
                    self.assertEqual(drawing.ancestors(names), up)
                    self.assertEqual(drawing.descendants(names), down)

    def test_written_out(self):
        drawing = Drawing(6, [(0, 2), (2, 3), (1, 3), (3, 5)], [(0, 4), (1, 5)])
        self.assertEqual(drawing.ancestors(()), ())
        self.assertEqual(drawing.descendants(()), ())
        self.assertEqual(drawing.ancestors((3,)), (0, 1, 2, 3))
        self.assertEqual(drawing.descendants((2,)), (2, 3, 5))
        self.assertEqual(drawing.ancestors((2, 4)), (0, 2, 4))
        self.assertEqual(drawing.descendants((1, 4)), (1, 3, 4, 5))
        self.assertEqual(drawing.ancestors((0, 1, 2, 3, 4, 5)), (0, 1, 2, 3, 4, 5))
        self.assertEqual(drawing.descendants((0, 1, 2, 3, 4, 5)), (0, 1, 2, 3, 4, 5))

    def test_told_as_tuples(self):
        drawing = Drawing(3, [(0, 1), (1, 2)], [])
        for told in (drawing.sources(1), drawing.followers(1), drawing.ancestors((1,)), drawing.descendants((1,))):
            self.assertIs(type(told), tuple)


def joined(drawing, names):
    """For all two of the names whether a row of bows within the names leads from one to the other."""
    near = {(a, b): a == b or (min(a, b), max(a, b)) in drawing.bows for a in names for b in names}
    for through in names:
        for a in names:
            for b in names:
                near[a, b] = near[a, b] or near[a, through] and near[through, b]
    return near


class LumpsTest(unittest.TestCase):
    def test_by_rows_of_bows(self):
        for drawing in drawings_to_ask():
            for names in all_sets(drawing.count):
                near = joined(drawing, names)
                wanted = []
                for a in names:
                    lump = tuple(b for b in names if near[a, b])
                    if lump not in wanted:
                        wanted.append(lump)
                with self.subTest(shape=drawing.shape(), names=names):
                    told = drawing.lumps(names)
                    self.assertEqual(told, wanted)
                    self.assertIs(type(told), list)
                    self.assertTrue(all(type(lump) is tuple for lump in told))

    def test_written_out(self):
        drawing = Drawing(6, [(0, 1), (2, 4)], [(0, 3), (3, 5), (1, 4), (2, 5)])
        self.assertEqual(drawing.lumps(()), [])
        self.assertEqual(drawing.lumps((4,)), [(4,)])
        self.assertEqual(drawing.lumps((0, 1, 2, 3, 4, 5)), [(0, 2, 3, 5), (1, 4)])

    def test_a_row_only_through_a_name_outside_joins_nothing(self):
        drawing = Drawing(6, [(0, 5)], [(0, 3), (3, 5), (1, 4), (2, 5)])
        self.assertEqual(drawing.lumps((0, 5)), [(0,), (5,)])
        self.assertEqual(drawing.lumps((0, 2, 3)), [(0, 3), (2,)])
        self.assertEqual(drawing.lumps((0, 1, 2, 4, 5)), [(0,), (1, 4), (2, 5)])

    def test_rows_that_turn_about(self):
        self.assertEqual(Drawing(4, [], [(0, 3), (1, 3), (1, 2)]).lumps((0, 1, 2, 3)), [(0, 1, 2, 3)])
        self.assertEqual(Drawing(5, [], [(1, 4), (0, 4), (2, 3)]).lumps((0, 1, 2, 3, 4)), [(0, 1, 4), (2, 3)])


def part_of(shape, names):
    count, ties, bows = shape
    both = [tuple(p for p in pairs if p[0] in names and p[1] in names) for pairs in (ties, bows)]
    return (count, both[0], both[1])


def cut_in_of(shape, names):
    count, ties, bows = shape
    return (count, tuple(t for t in ties if t[1] not in names), tuple(b for b in bows if not set(b) & set(names)))


def cut_out_of(shape, names):
    count, ties, bows = shape
    return (count, tuple(t for t in ties if t[0] not in names), bows)


WANTED = {"part": part_of, "cut_in": cut_in_of, "cut_out": cut_out_of}


class OthersTest(unittest.TestCase):
    def test_by_every_set(self):
        for drawing in drawings_to_ask():
            shape = drawing.shape()
            for names in all_sets(drawing.count):
                for method, wanted in WANTED.items():
                    with self.subTest(shape=shape, names=names, method=method):
                        told = getattr(drawing, method)(names)
                        self.assertIs(type(told), Drawing)
                        self.assertIsNot(told, drawing)
                        self.assertEqual(told.shape(), wanted(shape, names))
                        self.assertEqual(drawing.shape(), shape)

    def test_written_out(self):
        drawing = Drawing(4, [(0, 1), (1, 2), (1, 3), (2, 3)], [(0, 2), (1, 3)])
        self.assertEqual(drawing.part((1, 2, 3)).shape(), (4, ((1, 2), (1, 3), (2, 3)), ((1, 3),)))
        self.assertEqual(drawing.part(()).shape(), (4, (), ()))
        self.assertEqual(drawing.part((0, 1, 2, 3)).shape(), drawing.shape())
        self.assertEqual(drawing.cut_in((1,)).shape(), (4, ((1, 2), (1, 3), (2, 3)), ((0, 2),)))
        self.assertEqual(drawing.cut_in(()).shape(), drawing.shape())
        self.assertEqual(drawing.cut_in((0, 1, 2, 3)).shape(), (4, (), ()))
        self.assertEqual(drawing.cut_out((1,)).shape(), (4, ((0, 1), (2, 3)), ((0, 2), (1, 3))))
        self.assertEqual(drawing.cut_out(()).shape(), drawing.shape())
        self.assertEqual(drawing.cut_out((0, 1, 2, 3)).shape(), (4, (), ((0, 2), (1, 3))))

    def test_one_behind_the_other_in_all_orders(self):
        thick = Drawing(6, all_pairs(6), [(0, 1), (0, 5), (1, 4), (2, 3), (2, 5), (3, 4)])
        thin = Drawing(6, [(0, 2), (1, 2), (2, 4), (3, 5)], [(0, 4), (1, 3), (4, 5)])
        sets = [(), (0,), (2, 3), (1, 2, 5), (0, 1, 3, 4), (1, 2, 3, 4, 5), (0, 1, 2, 3, 4, 5)]
        for drawing in (thick, thin):
            for a, b, c in product(sets, repeat=3):
                makings = [("part", a), ("cut_in", b), ("cut_out", c)]
                wanted = cut_out_of(cut_in_of(part_of(drawing.shape(), a), b), c)
                for order in permutations(makings):
                    told = drawing
                    for method, names in order:
                        told = getattr(told, method)(names)
                    with self.subTest(order=order):
                        self.assertEqual(told.shape(), wanted)

    def test_the_same_one_twice_in_both_orders(self):
        for drawing in large_drawings():
            for method in WANTED:
                for a, b in [((0, 1), (1, 2)), ((), (0, 3)), ((0, 1, 2, 3), (2,))]:
                    one = getattr(getattr(drawing, method)(a), method)(b)
                    other = getattr(getattr(drawing, method)(b), method)(a)
                    self.assertEqual(one.shape(), other.shape())


if __name__ == "__main__":
    unittest.main()
