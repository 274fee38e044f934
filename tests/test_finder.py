"""Point 28, and of points 1, 5 and 24 what they say of it: doingbook/finder.py."""

import unittest

from doingbook.drawings import Drawing
from doingbook.errors import NoName, NoSets
from doingbook.finder import comes
from tests.papers import kinds_of_cuts, lets_by_words, nest_conditions
from tests.support import NO_SETS, questions, refusal, small_drawings, some_drawings


class ComesTest(unittest.TestCase):
    def check(self, drawing, question):
        """The kinds of cuts of the told paper, None where a nest is told."""
        shape = drawing.shape()
        told = comes(drawing, question)
        self.assertEqual(drawing.shape(), shape)
        self.assertIs(type(told), tuple)
        if told[0] == "formula":
            self.assertEqual(len(told), 2)
            self.assertTrue(lets_by_words(drawing, question, told[1]))
            return kinds_of_cuts(told[1])
        self.assertEqual((told[0], len(told)), ("nest", 3))
        wrong = [words for words, holds in nest_conditions(drawing, question, told[1], told[2]).items() if not holds]
        self.assertEqual(wrong, [])
        return None

    def check_several(self, drawings, most):
        """How often which kinds of cuts were told, and how often a nest."""
        told = {}
        for turn, drawing in enumerate(drawings):
            several = questions(drawing.count)
            for question in several[turn % 7::len(several) // most + 1] if len(several) > most else several:
                with self.subTest(shape=drawing.shape(), question=question):
                    kinds = self.check(drawing, question)
                    for kind in ["nest"] if kinds is None else kinds:
                        told[kind] = told.get(kind, 0) + 1
        return told

    def test_every_question_of_drawings_with_few_names(self):
        told = self.check_several(small_drawings(), 100)
        self.assertGreater(min(told[()], told[("up",)], told["nest"]), 40)

    def test_some_questions_of_drawings_with_many_names(self):
        for count in range(4, 7):
            told = self.check_several(some_drawings(count, 90, 600 + count), 25)
            with self.subTest(count=count, told=told):
                self.assertGreater(min(told[()], told[("up",)], told[("up", "lump")], told["nest"]), 10)
                self.assertGreater(told.get(("up", "lump", "up"), 0), 0 if count > 4 else -1)

    def test_one_name(self):
        self.assertEqual(comes(Drawing(1, [], []), ((), (0,))), ("formula", (((0,), ()),)))

    def test_nothing_set_has_a_formula(self):
        for count in range(1, 7):
            for drawing in some_drawings(count, 14, 630 + count):
                for question in [question for question in questions(count) if question[0] == ()]:
                    self.assertEqual(comes(drawing, question)[0], "formula")

    def test_drawings_without_bows_have_a_formula(self):
        for count in range(1, 7):
            drawing = Drawing(count, [(u, v) for v in range(count) for u in range(v)], [])
            for question in questions(count):
                told = comes(drawing, question)
                self.assertEqual(kinds_of_cuts(told[1]), {()})

    def test_written_out(self):
        bow = Drawing(2, [(0, 1)], [(0, 1)])
        self.assertEqual(comes(bow, ((0,), (1,))), ("nest", (1,), (0, 1)))
        self.assertEqual(comes(bow, ((1,), (0,))), ("formula", (((0,), (("up", (0,)),)),)))
        self.assertEqual(comes(bow, ((), (1,))), ("formula", (((0, 1), ()),)))
        front = Drawing(3, [(0, 1), (1, 2)], [(0, 2)])
        self.assertEqual(comes(front, ((0,), (2,))), ("formula", (((1,), ()), ((2,), (("up", (2,)),)))))
        napkin = Drawing(4, [(0, 1), (1, 2), (2, 3)], [(0, 2), (0, 3)])
        self.assertEqual(comes(napkin, ((2,), (3,)))[0], "formula")
        self.assertEqual(comes(napkin, ((0, 1), (2, 3)))[0], "formula")
        # Two ways from the first name to the last one, one of which something hidden lies under.
        several = Drawing(4, [(0, 1), (0, 3), (1, 3), (2, 3)], [(0, 2), (2, 3)])
        self.assertEqual(comes(several, ((0,), (3,))), ("nest", (2, 3), (0, 2, 3)))

    def test_several_cuts(self):
        drawing = Drawing(4, [(0, 2), (2, 3)], [(0, 1), (0, 3), (1, 2)])
        self.assertEqual(self.check(drawing, ((0, 1), (3,))), {("up", "lump"), ("up", "lump", "up")})
        drawing = Drawing(5, [(0, 2), (1, 3), (1, 4), (2, 3), (2, 4)], [(0, 1), (0, 3), (1, 4), (2, 4), (3, 4)])
        self.assertIn(("up", "lump", "up", "lump"), self.check(drawing, ((0, 1), (2, 3))))
        drawing = Drawing(6, [(0, 2), (1, 2), (2, 4), (4, 5)], [(1, 4), (1, 5), (2, 3), (3, 5)])
        self.assertIn(("up", "lump", "up", "lump"), self.check(drawing, ((0, 1, 4), (2, 5))))


class RefusedTest(unittest.TestCase):
    def test_what_is_no_set(self):
        drawing = Drawing(6, [(0, 1)], [(1, 2)])
        for wrong in NO_SETS:
            for right in ((), (0,), (1, 2)):
                for question in ((wrong, right), (right, wrong), (wrong, wrong)):
                    self.assertIs(refusal(comes, drawing, question), NoName)

    def test_common_names_and_nothing_asked(self):
        drawing = Drawing(3, [(0, 1)], [(1, 2)])
        for question in [((0,), (0,)), ((0, 1), (1, 2)), ((), ()), ((1,), ()), ((0, 1, 2), (0, 1, 2))]:
            self.assertIs(refusal(comes, drawing, question), NoSets)

    def test_no_name_is_ahead_of_no_sets(self):
        drawing = Drawing(3, [], [])
        for question in [((3,), ()), ((0, 0), ()), ((0, 3), (0, 1)), ((1,), (1, 1)), ((0, 1), (1, 0))]:
            self.assertIs(refusal(comes, drawing, question), NoName)


if __name__ == "__main__":
    unittest.main()
