"""Points 24 to 27, and of points 1 and 5 what they say of them: doingbook/cuts.py."""

import unittest
from functools import lru_cache

from doingbook.cuts import formula_of, lets, wanted
from doingbook.drawings import Drawing
from doingbook.errors import BadPaper, NoName, NoSets
from doingbook.formulas import worth
from doingbook.nests import bars
from doingbook.setting import set_share
from tests.papers import formula_by_words, kinds_of_cuts, lets_by_words, papers_for
from tests.support import (
    NO_SETS, all_sets, all_values, lumps_by_words, questions, refusal, small_drawings, some_drawings, wanted_by_words,
    world_of,
)

# Setting the first name can be read off from the third by way of the second.
FRONT = Drawing(3, [(0, 1), (1, 2)], [(0, 2)])
LONG = Drawing(4, [(0, 1), (1, 2), (2, 3)], [(0, 2), (1, 3)])
# Setting the third name can be read off from the fourth by a cut of each kind alone.
NAPKIN = Drawing(4, [(0, 1), (1, 2), (2, 3)], [(0, 2), (0, 3)])


@lru_cache(maxsize=None)
def asked_papers(times, most):
    """Drawings, questions and papers, with no cut, with each kind and with several."""
    told = []
    for drawing in small_drawings()[::4]:
        told += [(drawing, q, paper) for q in questions(drawing.count) for paper in papers_for(drawing, q, 2)]
    for count in range(4, 7):
        for turn, drawing in enumerate(some_drawings(count, times, 300 + count)):
            several = list(questions(count))
            for question in several[turn % 7::len(several) // 12 + 1]:
                told += [(drawing, question, paper) for paper in papers_for(drawing, question, most)]
    for drawing in (FRONT, LONG, NAPKIN):
        told += [(drawing, q, paper) for q in questions(drawing.count) for paper in papers_for(drawing, q, 6)]
    return told


class WantedTest(unittest.TestCase):
    def test_against_a_reckoning_here(self):
        for drawing in small_drawings() + [d for count in (4, 5, 6) for d in some_drawings(count, 20, 400 + count)]:
            for question in questions(drawing.count):
                with self.subTest(shape=drawing.shape(), question=question):
                    names = wanted_by_words(drawing, question)
                    told = wanted(drawing, question)
                    self.assertEqual(told, (names, lumps_by_words(drawing, names)))
                    self.assertEqual([type(told), type(told[0]), type(told[1])], [tuple, tuple, list])

    def test_written_out(self):
        drawing = Drawing(5, [(0, 1), (1, 2), (2, 3), (1, 4)], [(0, 2), (2, 3), (1, 4)])
        self.assertEqual(wanted(drawing, ((), (3,))), ((0, 1, 2, 3), [(0, 2, 3), (1,)]))
        self.assertEqual(wanted(drawing, ((1,), (3,))), ((2, 3), [(2, 3)]))
        self.assertEqual(wanted(drawing, ((2,), (3,))), ((3,), [(3,)]))
        self.assertEqual(wanted(drawing, ((2,), (3, 4))), ((0, 1, 3, 4), [(0,), (1, 4), (3,)]))
        self.assertEqual(wanted(drawing, ((0, 1, 2, 4), (3,))), ((3,), [(3,)]))
        self.assertEqual(wanted(drawing, ((), (0,))), ((0,), [(0,)]))

    def test_told_lists_are_the_askers_own(self):
        question = ((1,), (2,))
        first = wanted(FRONT, question)
        first[1].append((7,))
        first[1][0] = ()
        self.assertEqual(wanted(FRONT, question), ((2,), [(2,)]))


class QuestionTest(unittest.TestCase):
    def refusals(self, drawing, question):
        return {
            refusal(wanted, drawing, question), refusal(lets, drawing, question, ()),
            refusal(lets, drawing, question, (((9,), (("up", (-1,)),)),)), refusal(formula_of, drawing, question, ()),
            refusal(formula_of, drawing, question, (((0,), ()),)), refusal(bars, drawing, question, (0,), (0, 1)),
        }

    def test_what_is_no_set(self):
        drawing = Drawing(6, [(0, 1)], [(1, 2)])
        for wrong in NO_SETS:
            for right in ((), (0,), (1, 2)):
                for question in ((wrong, right), (right, wrong), (wrong, wrong)):
                    self.assertEqual(self.refusals(drawing, question), {NoName})

    def test_common_names_and_nothing_asked(self):
        drawing = Drawing(4, [(0, 1)], [(1, 2)])
        for question in [
            ((0,), (0,)), ((0, 1), (1, 2)), ((), ()), ((1,), ()), ((0, 1, 2, 3), (0, 1, 2, 3)), ((0, 1, 2, 3), ()),
        ]:
            self.assertEqual(self.refusals(drawing, question), {NoSets})

    def test_no_name_is_ahead_of_no_sets(self):
        drawing = Drawing(3, [], [])
        for question in [((3,), ()), ((0, 0), ()), ((0, 3), (0, 1)), ((1,), (1, 1)), ((0, 1), (1, 0))]:
            self.assertEqual(self.refusals(drawing, question), {NoName})


class LetsTest(unittest.TestCase):
    def test_papers_that_are_let_by(self):
        kinds = set()
        for drawing, question, paper in asked_papers(20, 3):
            with self.subTest(shape=drawing.shape(), question=question, paper=paper):
                kinds |= kinds_of_cuts(paper)
                self.assertTrue(lets_by_words(drawing, question, paper))
                self.assertIs(lets(drawing, question, paper), True)
        self.assertLessEqual({(), ("up",), ("up", "lump"), ("up", "up"), ("up", "lump", "up")}, kinds)

    def test_one_paper_of_five_cuts(self):
        drawing = Drawing(6, [], [(0, 1), (1, 2), (2, 3), (3, 4), (4, 5)])
        question = ((1, 2, 3, 4, 5), (0,))
        cuts = tuple(("up", tuple(range(count))) for count in (5, 4, 3, 2, 1))
        self.assertIs(lets(drawing, question, (((0,), cuts),)), True)
        self.assertIs(lets(drawing, question, (((0,), (("up", (0,)),)),)), True)
        self.assertIs(lets(drawing, question, (((0,), (("up", (0, 2)), ("lump", (0,)))),)), True)

    def bent_papers(self, drawing, paper):
        """The paper with a row, a lump or a cut bent, left out, exchanged, doubled or put in."""
        yield ()
        yield paper[1:]
        yield paper[:-1]
        yield paper[::-1]
        yield paper + paper[:1]
        yield paper + ((paper[0][0], ()),)
        others = all_sets(drawing.count)[::3] + [(-1,), (9,), (0, 0), (1, 0), (10 ** 70,), (0, 1, 9)]
        for place, (lump, cuts) in enumerate(paper):
            for other in others:
                yield paper[:place] + ((other, cuts),) + paper[place + 1:]
                for word in ("up", "lump", "down", "", "Up", "lump "):
                    yield paper[:place] + ((lump, cuts + ((word, other),)),) + paper[place + 1:]
                    yield paper[:place] + ((lump, ((word, other),) + cuts),) + paper[place + 1:]
            for at, (word, names) in enumerate(cuts):
                rows = [cuts[:at] + cuts[at + 1:], cuts[:at] + (cuts[at], cuts[at]) + cuts[at + 1:], cuts[::-1]]
                rows += [cuts[:at] + ((kind, names),) + cuts[at + 1:] for kind in ("up", "lump", "side", "")]
                rows += [cuts[:at] + ((word, other),) + cuts[at + 1:] for other in others]
                rows += [cuts[:at] + ((word, row),) + cuts[at + 1:] for row in (names[::-1], names + names)]
                for row in rows:
                    yield paper[:place] + ((lump, row),) + paper[place + 1:]

    def test_bent_papers(self):
        answers = {True: 0, False: 0}
        for drawing, question, paper in asked_papers(12, 2)[::9]:
            for bent in self.bent_papers(drawing, paper):
                wish = lets_by_words(drawing, question, bent)
                answers[wish] += 1
                with self.subTest(shape=drawing.shape(), question=question, paper=bent):
                    self.assertIs(lets(drawing, question, bent), wish)
                    if not wish:
                        self.assertIs(refusal(formula_of, drawing, question, bent), BadPaper)
        self.assertGreater(min(answers.values()), 300)

    def test_written_out(self):
        question = ((0,), (2,))
        good = (((1,), ()), ((2,), (("up", (0, 2)), ("lump", (2,)))))
        self.assertIs(lets(FRONT, question, good), False)
        self.assertEqual(wanted(FRONT, question), ((1, 2), [(1,), (2,)]))
        # The hidden one under the first and the third: that the second name isn't of their lump lets the first go.
        good = (((1,), ()), ((2,), (("up", (2,)),)))
        self.assertIs(lets(FRONT, question, good), True)
        self.assertIs(lets(FRONT, question, good[::-1]), False)
        self.assertIs(lets(FRONT, question, good[:1]), False)
        self.assertIs(lets(FRONT, question, good + good[:1]), False)
        self.assertIs(lets(FRONT, question, (((1,), ()), ((0, 2), ()))), False)
        self.assertIs(lets(FRONT, question, (((1,), ()), ((2,), ()))), False)
        self.assertIs(lets(FRONT, question, (((1,), (("up", (1,)),)), good[1])), False)
        self.assertIs(lets(FRONT, question, (((1,), (("lump", (1,)),)), good[1])), False)
        self.assertIs(lets(FRONT, question, (((1,), ()), ((2,), (("up", ()), ("up", (2,)))))), False)
        self.assertIs(lets(FRONT, question, (((1,), ()), ((2,), (("lump", (2,)),)))), False)
        self.assertIs(lets(FRONT, question, (((1,), ()), ((2,), (("upward", (2,)),)))), False)

    def test_an_up_that_leaves_out_a_source(self):
        drawing = Drawing(3, [(0, 2)], [(0, 1), (1, 2)])
        question = ((0, 1), (2,))
        self.assertIs(lets(drawing, question, (((2,), (("up", (2,)),)),)), False)
        self.assertIs(lets(drawing, question, (((2,), (("up", (0, 2)), ("up", (2,)))),)), False)
        self.assertIs(lets(drawing, question, (((2,), (("up", (0, 2)), ("lump", (2,)))),)), True)
        # A source that fell away ahead is asked for no longer.
        drawing = Drawing(4, [(0, 3)], [(0, 1), (1, 2), (2, 3)])
        question = ((0, 1, 2), (3,))
        cuts = (("up", (0, 2, 3)), ("lump", (2, 3)), ("up", (3,)))
        self.assertIs(lets(drawing, question, (((3,), cuts),)), True)
        self.assertIs(lets(drawing, question, (((3,), cuts[:2] + (("lump", (3,)),)),)), False)
        self.assertIs(lets(drawing, question, (((3,), (("up", (3,)),)),)), False)


class FormulaTest(unittest.TestCase):
    def test_against_a_reckoning_here(self):
        kinds = set()
        several_lumps = 0
        not_asked = 0
        for drawing, question, paper in asked_papers(20, 3):
            kinds |= kinds_of_cuts(paper)
            several_lumps += len(paper) > 1
            not_asked += len(wanted_by_words(drawing, question)) > len(question[1])
            with self.subTest(shape=drawing.shape(), question=question, paper=paper):
                self.assertEqual(formula_of(drawing, question, paper), formula_by_words(drawing, question, paper))
        self.assertLessEqual({(), ("up",), ("up", "lump"), ("up", "lump", "up")}, kinds)
        self.assertGreater(min(several_lumps, not_asked), 20)

    def test_no_cut(self):
        drawing = Drawing(2, [(0, 1)], [])
        told = formula_of(drawing, ((0,), (1,)), (((1,), ()),))
        self.assertEqual(told, ("over", ("seen", (0, 1)), ("seen", (0,))))
        told = formula_of(drawing, ((), (0,)), (((0,), ()),))
        self.assertEqual(told, ("over", ("seen", (0,)), ("seen", ())))
        told = formula_of(drawing, ((), (1,)), (((0,), ()), ((1,), ())))
        first, second = ("over", ("seen", (0,)), ("seen", ())), ("over", ("seen", (0, 1)), ("seen", (0,)))
        self.assertEqual(told, ("sum", (0,), ("times", first, second)))

    def test_up(self):
        told = formula_of(FRONT, ((0,), (2,)), (((1,), ()), ((2,), (("up", (2,)),))))
        first = ("over", ("seen", (0, 1)), ("seen", (0,)))
        lump = ("times", ("over", ("seen", (0,)), ("seen", ())), ("over", ("seen", (0, 1, 2)), ("seen", (0, 1))))
        self.assertEqual(told, ("sum", (1,), ("times", first, ("sum", (0,), lump))))

    def test_lump(self):
        drawing = Drawing(4, [(0, 3)], [(0, 1), (1, 2), (2, 3)])
        chain = [("over", ("seen", tuple(range(v + 1))), ("seen", tuple(range(v)))) for v in range(4)]
        whole = ("times", ("times", ("times", chain[0], chain[1]), chain[2]), chain[3])
        up = ("sum", (1,), whole)
        second = ("over", ("sum", (3,), up), ("sum", (2, 3), up))
        lump = ("times", second, ("over", up, ("sum", (3,), up)))
        question = ((0, 1), (2, 3))
        self.assertEqual(formula_of(drawing, question, (((2, 3), (("up", (0, 2, 3)), ("lump", (2, 3)))),)), lump)
        question = ((0, 1, 2), (3,))
        cuts = (("up", (0, 2, 3)), ("lump", (2, 3)), ("up", (3,)))
        self.assertEqual(formula_of(drawing, question, (((3,), cuts),)), ("sum", (2,), lump))
        question = ((1, 2, 3), (0,))
        cuts = (("up", (0, 2, 3)), ("lump", (0,)))
        told = formula_of(drawing, question, (((0,), cuts),))
        self.assertEqual(told, ("over", ("sum", (2, 3), up), ("one",)))

    def test_three_wanted_lumps(self):
        drawing = Drawing(3, [(0, 1), (1, 2)], [])
        chain = [("over", ("seen", tuple(range(v + 1))), ("seen", tuple(range(v)))) for v in range(3)]
        told = formula_of(drawing, ((), (0, 1, 2)), (((0,), ()), ((1,), ()), ((2,), ())))
        self.assertEqual(told, ("times", ("times", chain[0], chain[1]), chain[2]))
        told = formula_of(drawing, ((), (2,)), (((0,), ()), ((1,), ()), ((2,), ())))
        self.assertEqual(told, ("sum", (0, 1), ("times", ("times", chain[0], chain[1]), chain[2])))

    def test_papers_that_are_not_let_by(self):
        for paper in [(), (((1,), ()),), (((1,), ()), ((2,), ())), (((9,), (("up", (-1,)),)),), (((), ()), ((), ()))]:
            self.assertIs(refusal(formula_of, FRONT, ((0,), (2,)), paper), BadPaper)


class RightTest(unittest.TestCase):
    """Point 27."""

    def check(self, drawing, question, paper, world):
        setnames, asked = question
        formula = formula_of(drawing, question, paper)
        table = world.seen()
        for way in all_values(world.sizes):
            values = dict(enumerate(way))
            set_values = tuple(values[name] for name in setnames)
            wish = set_share(world, setnames, set_values, asked, tuple(values[name] for name in asked))
            self.assertEqual(worth(formula, world.sizes, table, values), wish)

    def test_in_full_worlds_for_all_values(self):
        kinds = set()
        worlds = {}
        for place, (drawing, question, paper) in enumerate(asked_papers(8, 2)):
            if drawing.count > 4 and place % 5:
                continue
            shape = drawing.shape()
            if shape not in worlds:
                worlds[shape] = world_of(drawing, place, 3 if drawing.count < 4 else 2, 3 if drawing.count < 4 else 2)
                self.assertIs(worlds[shape].full(), True)
            kinds |= kinds_of_cuts(paper)
            with self.subTest(shape=shape, question=question, paper=paper):
                self.check(drawing, question, paper, worlds[shape])
        self.assertLessEqual({(), ("up",), ("up", "lump"), ("up", "up"), ("up", "lump", "up")}, kinds)


if __name__ == "__main__":
    unittest.main()
