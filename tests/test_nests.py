"""Point 29, and of points 1 and 5 what they say of it: doingbook/nests.py."""

import unittest

from doingbook.drawings import Drawing
from doingbook.errors import NoName, NoSets
from doingbook.nests import bars
from tests.papers import nest_conditions
from tests.support import NO_SETS, all_sets, questions, refusal, small_drawings, some_drawings

# The first name works on the second one, and something hidden lies under both.
BOW = Drawing(2, [(0, 1)], [(0, 1)])


class BarsTest(unittest.TestCase):
    def check(self, drawing, question, inner, outer, failed):
        told = nest_conditions(drawing, question, inner, outer)
        wrong = [words for words, holds in told.items() if not holds]
        failed[tuple(wrong)] = failed.get(tuple(wrong), 0) + 1
        with self.subTest(shape=drawing.shape(), question=question, inner=inner, outer=outer):
            self.assertIs(bars(drawing, question, inner, outer), wrong == [])

    def check_failed(self, failed):
        """Nests that bar have been there, and for each condition that can fail alone some for which it did."""
        self.assertGreater(failed[()], 5)
        alone = {wrong[0] for wrong in failed if len(wrong) == 1}
        # The empty set is no lump of itself; and what is set isn't wanted, so outer has it besides inner.
        never_alone = {"inner isn't empty", "outer has others besides"}
        self.assertEqual(alone, set(nest_conditions(BOW, ((), (1,)), (), ())) - never_alone)

    def test_every_nest_of_drawings_with_few_names(self):
        failed = {}
        for drawing in small_drawings():
            for question in questions(drawing.count):
                for inner in all_sets(drawing.count):
                    for outer in all_sets(drawing.count):
                        self.check(drawing, question, inner, outer, failed)
        self.check_failed(failed)

    def test_some_nests_of_drawings_with_many_names(self):
        failed = {}
        for count in range(4, 7):
            for turn, drawing in enumerate(some_drawings(count, 14, 500 + count)):
                several = questions(count)
                for question in several[turn % 5::len(several) // 9 + 1]:
                    for outer in all_sets(count)[turn % 2::2]:
                        for inner in [names for names in all_sets(count) if len(set(names) - set(outer)) < 2][::2]:
                            self.check(drawing, question, inner, outer, failed)
        self.check_failed(failed)

    def test_written_out(self):
        self.assertIs(bars(BOW, ((0,), (1,)), (1,), (0, 1)), True)
        self.assertIs(bars(BOW, ((), (1,)), (1,), (0, 1)), False)
        self.assertIs(bars(BOW, ((1,), (0,)), (0,), (0, 1)), False)
        self.assertIs(bars(BOW, ((0,), (1,)), (0,), (0, 1)), False)
        self.assertIs(bars(BOW, ((0,), (1,)), (0, 1), (0, 1)), False)
        self.assertIs(bars(BOW, ((0,), (1,)), (0, 1), (1,)), False)
        self.assertIs(bars(BOW, ((0,), (1,)), (), (0, 1)), False)
        self.assertIs(bars(BOW, ((0,), (1,)), (), ()), False)
        self.assertIs(bars(BOW, ((0,), (1,)), (1,), ()), False)
        self.assertIs(bars(Drawing(2, [(0, 1)], []), ((0,), (1,)), (1,), (0, 1)), False)
        self.assertIs(bars(Drawing(2, [], [(0, 1)]), ((0,), (1,)), (1,), (0, 1)), False)

    def test_each_condition_alone_fails(self):
        drawing = Drawing(5, [(0, 1), (1, 2), (2, 3), (0, 4)], [(0, 1), (0, 2), (0, 4), (1, 4), (2, 3)])
        question = ((0,), (3,))
        self.assertIs(bars(drawing, question, (2, 3), (0, 1, 2, 3)), True)
        for asked, inner, outer, words in [
            (question, (1, 3), (0, 1, 2, 3), "inner is one lump"),
            (((1,), (3,)), (2,), (1, 2), "outer is one lump"),
            (question, (2, 3), (0, 2, 3), "outer's names are ancestors of inner"),
            (question, (3,), (2, 3), "outer has a name that is set"),
            (question, (2, 3), (0, 1, 2), "inner's names are among outer's"),
            (question, (4,), (0, 4), "all its names are wanted"),
        ]:
            told = nest_conditions(drawing, asked, inner, outer)
            self.assertEqual([condition for condition, holds in told.items() if not holds], [words])
            self.assertIs(bars(drawing, asked, inner, outer), False)

    def test_ancestors_through_names_outside_do_not_count(self):
        drawing = Drawing(3, [(0, 1), (1, 2)], [(0, 2), (1, 2)])
        self.assertIs(bars(drawing, ((0,), (2,)), (2,), (0, 2)), False)
        self.assertIs(bars(drawing, ((0,), (2,)), (1, 2), (0, 1, 2)), True)


class RefusedTest(unittest.TestCase):
    def test_what_is_no_set(self):
        drawing = Drawing(6, [(0, 1)], [(0, 1)])
        for wrong in NO_SETS:
            for question in (((0,), (1,)), ((0,), (0,)), ((), ())):
                self.assertIs(refusal(bars, drawing, question, wrong, (0, 1)), NoName)
                self.assertIs(refusal(bars, drawing, question, (1,), wrong), NoName)
                self.assertIs(refusal(bars, drawing, question, (), wrong), NoName)
            for question in ((wrong, (1,)), ((0,), wrong), (wrong, ()), ((), wrong)):
                self.assertIs(refusal(bars, drawing, question, (1,), (0, 1)), NoName)

    def test_what_is_no_question(self):
        for question in [((0,), (0,)), ((0, 1), (1,)), ((), ()), ((1,), ()), ((0, 1), (0, 1))]:
            for inner, outer in [((1,), (0, 1)), ((), ()), ((0, 1), (0,))]:
                self.assertIs(refusal(bars, BOW, question, inner, outer), NoSets)


if __name__ == "__main__":
    unittest.main()
