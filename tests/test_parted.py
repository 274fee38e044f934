"""Points 30 and 31, and of points 1, 5, 24 and 29 what they say of them: doingbook/parted.py."""

import unittest

from doingbook.drawings import Drawing
from doingbook.errors import NoName, NoNest, NoSets
from doingbook.finder import comes
from doingbook.nests import bars
from doingbook.parted import parted
from doingbook.setting import set_share
from doingbook.worlds import World
from tests.papers import first_by_words, goes_by_words, nest_conditions
from tests.support import (
    NO_SETS, all_pairs, all_sets, lumps_by_words, pair_of, questions, reckoned_weights, refusal, small_drawings,
    some_drawings, summed_where, wanted_by_words,
)

# The first name works on the second one, and something hidden lies under both.
BOW = Drawing(2, [(0, 1)], [(0, 1)])


def all_bars(drawing, question):
    """Every nest that bars a question, by the words of point 29."""
    told = []
    for outer in all_sets(drawing.count):
        if set(outer) & set(question[0]) and lumps_by_words(drawing, outer) == [outer]:
            for inner in all_sets(drawing.count):
                if set(inner) < set(outer) and all(nest_conditions(drawing, question, inner, outer).values()):
                    told.append((inner, outer))
    return told


def barring_nests(count, times, most_questions, most_nests, seed):
    told = []
    for turn, drawing in enumerate(some_drawings(count, times, seed)):
        several = [question for question in questions(count) if question[0]]
        for question in several[turn % 5::len(several) // most_questions + 1]:
            nests = all_bars(drawing, question)
            told += [(drawing, question, *nest) for nest in nests[::len(nests) // most_nests + 1]]
    return told


def values_on(names, values):
    return tuple(values[name] for name in names)


class PartedTest(unittest.TestCase):
    def check_worlds(self, drawing, question, told):
        self.assertEqual((type(told), len(told)), (tuple, 3))
        one, other, values = told
        for world in (one, other):
            self.assertIs(type(world), World)
            self.assertEqual(world.drawing.shape(), drawing.shape())
            again = World(drawing, world.sizes, world.hidden, world.tables)
            self.assertEqual((again.sizes, again.hidden, again.tables), (world.sizes, world.hidden, world.tables))
        self.assertEqual(one.sizes, other.sizes)
        self.assertIs(type(values), dict)
        self.assertEqual(set(values), set(question[0]) | set(question[1]))
        for name, value in values.items():
            self.assertIs(type(value), int)
            self.assertIn(value, range(one.sizes[name]))

    def check(self, drawing, question, inner, outer):
        shape = drawing.shape()
        told = parted(drawing, question, inner, outer)
        self.assertEqual(drawing.shape(), shape)
        self.check_worlds(drawing, question, told)
        one, other, values = told
        self.assertEqual((one.full(), other.full()), (True, True))
        self.assertEqual(one.seen(), other.seen())
        setnames, asked = question
        handed = (setnames, values_on(setnames, values), asked, values_on(asked, values))
        self.assertNotEqual(set_share(one, *handed), set_share(other, *handed))
        return told

    def check_by_words(self, drawing, question, inner, outer):
        """The same by weights that are reckoned here."""
        one, other, values = self.check(drawing, question, inner, outer)
        tables = [reckoned_weights(world, {}) for world in (one, other)]
        self.assertEqual(tables[0], tables[1])
        self.assertGreater(min(tables[0].values()), 0)
        setting = {name: values[name] for name in question[0]}
        shares = [summed_where(reckoned_weights(world, setting), values) for world in (one, other)]
        self.assertNotEqual(shares[0], shares[1])

    def test_every_nest_of_drawings_with_few_names(self):
        nests = 0
        for drawing in small_drawings():
            for question in questions(drawing.count):
                for inner, outer in all_bars(drawing, question):
                    nests += 1
                    with self.subTest(shape=drawing.shape(), question=question, inner=inner, outer=outer):
                        self.check_by_words(drawing, question, inner, outer)
        self.assertGreater(nests, 100)

    def test_some_nests_of_drawings_with_many_names(self):
        sizes = set()
        for count, times in ((4, 40), (5, 30), (6, 20)):
            several = barring_nests(count, times, 12, 2, 700 + count)
            self.assertGreater(len(several), 60)
            for drawing, question, inner, outer in several:
                with self.subTest(shape=drawing.shape(), question=question, inner=inner, outer=outer):
                    sizes.add((len(inner), len(outer)))
                    self.check(drawing, question, inner, outer)
        self.assertLessEqual({(1, 2), (1, 3), (2, 3), (1, 4), (3, 4), (1, 5), (2, 5)}, sizes)

    def test_what_the_finder_tells(self):
        nests = 0
        for count, times in ((3, 20), (4, 30), (5, 30), (6, 30)):
            for turn, drawing in enumerate(some_drawings(count, times, 730 + count)):
                several = questions(count)
                for question in several[turn % 6::len(several) // 10 + 1]:
                    told = comes(drawing, question)
                    if told[0] == "nest":
                        nests += 1
                        self.check(drawing, question, told[1], told[2])
        self.assertGreater(nests, 100)

    def test_ways_to_the_asked_names_over_outer_and_inner(self):
        # The one way on from inner leads over a name of outer that isn't inner's.
        drawing = Drawing(4, [(0, 1), (1, 2), (2, 3)], [(0, 1), (0, 2), (2, 3)])
        self.check_by_words(drawing, ((0,), (3,)), (1,), (0, 1))
        self.check_by_words(drawing, ((0,), (3,)), (2,), (0, 1, 2))
        drawing = Drawing(5, [(0, 2), (1, 2), (2, 3), (3, 4), (1, 4)], [(0, 1), (0, 3), (3, 4), (1, 2)])
        for inner, outer in all_bars(drawing, ((0,), (4,))):
            self.check_by_words(drawing, ((0,), (4,)), inner, outer)
        self.assertGreater(len(all_bars(drawing, ((0,), (4,)))), 3)

    def test_the_most_names_and_bows(self):
        pairs = all_pairs(6)
        drawing = Drawing(6, pairs, [(0, 1), (0, 2), (0, 3), (0, 4), (0, 5), (1, 5)])
        for question in (((0,), (5,)), ((0,), (1, 2, 3, 4, 5)), ((0, 1, 2, 3, 4), (5,)), ((0, 2), (3, 4))):
            nests = all_bars(drawing, question)
            self.assertGreater(len(nests), 10)
            for inner, outer in nests[::len(nests) // 6 + 1] + nests[-1:]:
                self.check(drawing, question, inner, outer)
        chain = Drawing(6, pairs, [(0, 1), (1, 2), (2, 3), (3, 4), (4, 5)])
        for question in (((0,), (5,)), ((0,), (1, 2, 3, 4, 5)), ((0, 3), (4, 5)), ((4,), (0, 1, 5))):
            for inner, outer in all_bars(chain, question)[::5]:
                self.check(chain, question, inner, outer)

    def test_what_is_told_is_the_askers_own(self):
        one, other, values = parted(BOW, ((0,), (1,)), (1,), (0, 1))
        kept = (one.tables, other.tables, dict(values))
        values.clear()
        one.seen().clear()
        again = parted(BOW, ((0,), (1,)), (1,), (0, 1))
        self.assertEqual((again[0].tables, again[1].tables, again[2]), kept)
        self.assertEqual((one.tables, other.tables), kept[:2])
        self.assertEqual(len(one.seen()), 4)
        self.assertEqual(one.share((), ()), pair_of(1))


class RefusedTest(unittest.TestCase):
    def test_nests_that_do_not_bar(self):
        seen = 0
        for drawing in small_drawings()[::5] + some_drawings(4, 5, 760):
            for question in questions(drawing.count)[::3]:
                for inner in all_sets(drawing.count):
                    for outer in all_sets(drawing.count)[::2]:
                        if not all(nest_conditions(drawing, question, inner, outer).values()):
                            seen += 1
                            self.assertIs(refusal(parted, drawing, question, inner, outer), NoNest)
        self.assertGreater(seen, 1000)

    def test_no_name_is_first(self):
        drawing = Drawing(6, [(0, 1)], [(0, 1)])
        question = ((0,), (1,))
        for wrong in NO_SETS:
            for question, inner, outer in [
                ((wrong, (1,)), (1,), (0, 1)), (((0,), wrong), (1,), (0, 1)), (question, wrong, (0, 1)),
                (question, (1,), wrong), (((0,), ()), wrong, ()), (((0,), (0,)), (), wrong), ((wrong, ()), (), ()),
            ]:
                self.assertIs(refusal(parted, drawing, question, inner, outer), NoName)

    def test_no_sets_is_ahead_of_no_nest(self):
        for question in [((0,), ()), ((0,), (0,)), ((), ()), ((0, 1), (1,))]:
            for inner, outer in [((1,), (0, 1)), ((), ()), ((0, 1), (1,))]:
                self.assertIs(refusal(parted, BOW, question, inner, outer), NoSets)


class NeverBothTest(unittest.TestCase):
    """Point 31."""

    def is_reached(self, drawing, lump):
        """Whether cuts lead to a wanted lump: all that can stand is drawn step by step."""
        waiting = [first_by_words(drawing, lump)]
        reached = set(waiting)
        while waiting:
            stands = waiting.pop()
            for names in all_sets(drawing.count):
                if set(lump) <= set(names) < set(stands) and names not in reached:
                    if any(goes_by_words(drawing, stands, word, names) for word in ("up", "lump")):
                        reached.add(names)
                        waiting.append(names)
        return lump in reached

    def check(self, drawing, question):
        lumps = lumps_by_words(drawing, wanted_by_words(drawing, question))
        told = comes(drawing, question)
        self.assertIs(all(self.is_reached(drawing, lump) for lump in lumps), told[0] == "formula")
        if told[0] == "formula":
            for outer in all_sets(drawing.count):
                inners = [names for names in all_sets(drawing.count) if set(names) < set(outer)]
                self.assertFalse(any(bars(drawing, question, inner, outer) for inner in inners))
        return told[0]

    def test_every_question_of_drawings_with_few_names(self):
        told = {"formula": 0, "nest": 0}
        for drawing in small_drawings():
            for question in questions(drawing.count):
                with self.subTest(shape=drawing.shape(), question=question):
                    told[self.check(drawing, question)] += 1
        self.assertGreater(min(told.values()), 100)

    def test_some_questions_of_drawings_with_many_names(self):
        told = {"formula": 0, "nest": 0}
        for count in range(4, 7):
            for turn, drawing in enumerate(some_drawings(count, 24, 770 + count)):
                several = questions(count)
                for question in several[turn % 8::len(several) // 8 + 1]:
                    with self.subTest(shape=drawing.shape(), question=question):
                        told[self.check(drawing, question)] += 1
        self.assertGreater(min(told.values()), 40)


if __name__ == "__main__":
    unittest.main()
