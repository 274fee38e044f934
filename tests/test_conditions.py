"""Points 36 and 37, and of points 1, 5 and 32 what they say of them: doingbook/conditions.py."""

import unittest

from doingbook.conditions import comes_given, formula_given
from doingbook.drawings import Drawing
from doingbook.errors import NoFormula, NoName, NoSets
from doingbook.formulas import worth
from doingbook.setting import set_share_where
from tests.papers import formula_by_words, lets_by_words, nest_conditions
from tests.support import (
    NO_SETS, all_values, cut_by_words, is_barred_by_words, less, refusal, small_drawings, some_drawings, statements,
    union, world_of,
)

# The first name works on the last by way of the second; something hidden lies under the first and the last.
FRONT = Drawing(3, [(0, 1), (1, 2)], [(0, 2)])


def moved_by_words(drawing, statement):
    """By point 36: X and W at the end, and the names that went from W to X in the order in which they went."""
    asked, setnames, seen = statement
    went = []
    moving = True
    while moving:
        moving = False
        for z in seen:
            rest = less(seen, (z,))
            cut = cut_by_words(drawing.shape(), setnames, (z,))
            if is_barred_by_words(cut, asked, (z,), union(setnames, rest)):
                setnames, seen = union(setnames, (z,)), rest
                went.append(z)
                moving = True
                break
    return setnames, seen, went


def some_statements(drawings, most):
    for turn, drawing in enumerate(drawings):
        several = statements(drawing.count)
        for statement in several[turn % 7::len(several) // most + 1] if len(several) > most else several:
            yield drawing, statement


class ComesGivenTest(unittest.TestCase):
    def check(self, drawing, statement):
        """What kind of answer it was, and how many names went over."""
        shape = drawing.shape()
        told = comes_given(drawing, statement)
        self.assertEqual(drawing.shape(), shape)
        setnames, seen, went = moved_by_words(drawing, statement)
        question = (setnames, union(statement[0], seen))
        self.assertIs(type(told), tuple)
        self.assertEqual(told[1:3], (setnames, seen))
        if told[0] == "quotient":
            self.assertEqual(len(told), 4)
            self.assertTrue(lets_by_words(drawing, question, told[3]))
            both = formula_by_words(drawing, question, told[3])
            self.assertEqual(formula_given(drawing, statement), ("over", both, ("sum", statement[0], both)))
        else:
            self.assertEqual((told[0], len(told)), ("joint", 5))
            self.assertTrue(all(nest_conditions(drawing, question, told[3], told[4]).values()))
            self.assertIs(refusal(formula_given, drawing, statement), NoFormula)
        return told[0], len(went)

    def check_several(self, drawings, most):
        told = {}
        for drawing, statement in some_statements(drawings, most):
            with self.subTest(shape=drawing.shape(), statement=statement):
                kind = self.check(drawing, statement)
                told[kind] = told.get(kind, 0) + 1
        return told

    def test_every_statement_of_drawings_with_few_names(self):
        told = self.check_several(small_drawings(), 100)
        self.assertGreater(min(told[("quotient", 0)], told[("quotient", 1)], told[("joint", 0)]), 50)
        self.assertGreater(told[("quotient", 2)], 5)

    def test_some_statements_of_drawings_with_many_names(self):
        for count, times in ((4, 40), (5, 30), (6, 14)):
            told = self.check_several(some_drawings(count, times, 900 + count), 20)
            with self.subTest(count=count, told=told):
                for kind in [("quotient", 0), ("quotient", 1), ("quotient", 2), ("joint", 0), ("joint", 1)]:
                    self.assertGreater(told[kind], 2)

    def test_nothing_seen(self):
        self.assertEqual(comes_given(FRONT, ((1,), (0,), ())), ("quotient", (0,), (), (((1,), ()),)))
        first = ("over", ("seen", (0, 1)), ("seen", (0,)))
        self.assertEqual(formula_given(FRONT, ((1,), (0,), ())), ("over", first, ("sum", (1,), first)))
        bow = Drawing(2, [(0, 1)], [(0, 1)])
        self.assertEqual(comes_given(bow, ((1,), (0,), ())), ("joint", (0,), (), (1,), (0, 1)))
        self.assertIs(refusal(formula_given, bow, ((1,), (0,), ())), NoFormula)

    def test_a_seen_name_that_goes_over(self):
        drawing = Drawing(2, [(0, 1)], [])
        given = ("over", ("seen", (0, 1)), ("seen", (0,)))
        self.assertEqual(comes_given(drawing, ((1,), (), (0,))), ("quotient", (0,), (), (((1,), ()),)))
        self.assertEqual(formula_given(drawing, ((1,), (), (0,))), ("over", given, ("sum", (1,), given)))

    def test_a_seen_name_that_does_not_go_over(self):
        drawing = Drawing(2, [(0, 1)], [])
        first, second = ("over", ("seen", (0,)), ("seen", ())), ("over", ("seen", (0, 1)), ("seen", (0,)))
        both = ("times", first, second)
        paper = (((0,), ()), ((1,), ()))
        self.assertEqual(comes_given(drawing, ((0,), (), (1,))), ("quotient", (), (1,), paper))
        self.assertEqual(formula_given(drawing, ((0,), (), (1,))), ("over", both, ("sum", (0,), both)))


class RefusedTest(unittest.TestCase):
    def test_no_name_is_first(self):
        drawing = Drawing(6, FRONT.ties, FRONT.bows)
        for call in (comes_given, formula_given):
            for wrong in NO_SETS:
                for statement in [
                    (wrong, (), ()), ((0,), wrong, ()), ((0,), (), wrong), ((), wrong, (1,)), ((1,), (1,), wrong),
                ]:
                    self.assertIs(refusal(call, drawing, statement), NoName)

    def test_no_sets(self):
        for call in (comes_given, formula_given):
            for statement in [
                ((), (), ()), ((), (0,), (1,)), ((0,), (0,), ()), ((0,), (), (0,)), ((2,), (0, 1), (1,)),
            ]:
                self.assertIs(refusal(call, FRONT, statement), NoSets)


class RightTest(unittest.TestCase):
    """Point 37."""

    def check(self, world, statement):
        asked, setnames, seen = statement
        formula = formula_given(world.drawing, statement)
        table = world.seen()
        for way in all_values(world.sizes):
            values = dict(enumerate(way))
            on = [tuple(values[name] for name in names) for names in (setnames, asked, seen)]
            wish = set_share_where(world, setnames, on[0], asked, on[1], seen, on[2])
            self.assertEqual(worth(formula, world.sizes, table, values), wish)

    def test_in_full_worlds_for_all_values(self):
        told = {}
        for count, times, most in ((2, 12, 30), (3, 20, 12), (4, 14, 8), (5, 8, 5), (6, 4, 3)):
            worlds = {}
            for place, (drawing, statement) in enumerate(some_statements(some_drawings(count, times, 950), most)):
                answer = comes_given(drawing, statement)
                went = len(answer[1]) - len(statement[1])
                told[(answer[0], went)] = told.get((answer[0], went), 0) + 1
                if answer[0] == "joint":
                    continue
                if drawing.shape() not in worlds:
                    worlds[drawing.shape()] = world_of(drawing, place, 3 if count < 4 else 2, 2)
                world = worlds[drawing.shape()]
                self.assertIs(world.full(), True)
                with self.subTest(shape=drawing.shape(), statement=statement):
                    self.check(world, statement)
        self.assertGreater(min(told[("quotient", 0)], told[("quotient", 1)]), 30)
        self.assertGreater(told[("quotient", 2)], 5)


if __name__ == "__main__":
    unittest.main()
