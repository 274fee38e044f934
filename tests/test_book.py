"""Points 47 and 48, and of points 1, 5 and 24 what they say of them: doingbook/book.py."""

import copy
import unittest
from fractions import Fraction

from doingbook.book import Book
from doingbook.drawings import Drawing
from doingbook.errors import NoAnswer, NoFormula, NoName, NoQuestion, NoSets, NoShare
from doingbook.finder import comes
from doingbook.setting import set_share
from tests.forms import LETTERS, as_fractions, drawing_text_by_words, formula_text_by_words, worth_by_words
from tests.papers import formula_by_words, lets_by_words, nest_conditions, papers_for
from tests.support import (
    NO_SETS, all_values, pair_of, questions, refusal, small_drawings, some_drawings, world_of,
)

# The first name works on the last by way of the second; something hidden lies under the first and the last, and under
# the last two.
DRAWING = Drawing(3, [(0, 1), (1, 2)], [(0, 2), (1, 2)])
FRONT = Drawing(3, [(0, 1), (1, 2)], [(0, 2)])
FRONT_QUESTION = ((0,), (2,))
FRONT_PAPER = (((1,), ()), ((2,), (("up", (2,)),)))
BOW = Drawing(2, [(0, 1)], [(0, 1)])
BOW_QUESTION = ((0,), (1,))
BOW_NEST = ("nest", (1,), (0, 1))
# Sizes, a table and values that are none.
NO_TABLES = [((), {}, {}), ((2, 2, 2), {}, {}), ([9], {(0,): (1, 0)}, {7: 7}), (None, None, None)]


def state_of(book):
    return book.text(), book.questions(), [book.answer(question) for question in book.questions()]


def text_by_words(drawing, entries):
    """By point 48: the entries are questions with their answers."""
    def letters(names):
        return " ".join(LETTERS[name] for name in names)

    told = drawing_text_by_words(drawing)
    for (setnames, asked), answer in entries:
        told += "\n" + (f"set {letters(setnames)} " if setnames else "") + f"asked {letters(asked)}: "
        if answer[0] == "nest":
            told += f"none by {letters(answer[1])} in {letters(answer[2])}"
        else:
            told += formula_text_by_words(formula_by_words(drawing, (setnames, asked), answer[1]))
    return told


class EnterTest(unittest.TestCase):
    def test_a_book_with_no_answer(self):
        for drawing in small_drawings()[::6] + some_drawings(6, 5, 1300):
            book = Book(drawing)
            self.assertEqual(book.questions(), [])
            self.assertEqual(book.text(), text_by_words(drawing, []))
            for question in questions(drawing.count)[::50]:
                for call in (book.answer, book.formula):
                    self.assertIs(refusal(call, question), NoQuestion)
                for handed in NO_TABLES:
                    self.assertIs(refusal(book.worth_of, question, *handed), NoQuestion)

    def check_entry(self, book, drawing, question, answer):
        self.assertIsNone(book.enter(question, answer))
        self.assertEqual(book.answer(question), answer)
        self.assertIn(question, book.questions())
        if answer[0] == "formula":
            self.assertEqual(book.formula(question), formula_by_words(drawing, question, answer[1]))
        else:
            self.assertIs(refusal(book.formula, question), NoFormula)
            for handed in NO_TABLES:
                self.assertIs(refusal(book.worth_of, question, *handed), NoFormula)

    def test_papers_and_nests_of_many_questions(self):
        kinds = {"formula": 0, "nest": 0}
        for count in range(1, 7):
            for turn, drawing in enumerate(some_drawings(count, 12, 1310 + count)):
                book = Book(drawing)
                entries = {}
                several = questions(count)
                for question in several[turn % 5::len(several) // 9 + 1][::-1]:
                    answer = comes(drawing, question)
                    kinds[answer[0]] += 1
                    entries[question] = answer
                    self.check_entry(book, drawing, question, answer)
                self.assertEqual(book.questions(), list(entries))
                self.assertEqual(book.text(), text_by_words(drawing, entries.items()))
        self.assertGreater(min(kinds.values()), 40)

    def test_papers_that_others_wrote(self):
        drawing = Drawing(4, [(0, 1), (1, 2), (2, 3)], [(0, 2), (0, 3)])
        book = Book(drawing)
        several = [(question, paper) for question in questions(4) for paper in papers_for(drawing, question, 6)]
        for question, paper in several:
            self.check_entry(book, drawing, question, ("formula", paper))
        self.assertGreater(len(several), len(book.questions()) + 10)

    def test_an_answer_in_the_place_of_an_old_one(self):
        drawing = Drawing(4, [], [(0, 1), (1, 2), (2, 3)])
        question = ((1, 2, 3), (0,))
        old = ("formula", (((0,), (("up", (0,)),)),))
        new = ("formula", (((0,), (("up", (0, 2)), ("lump", (0,)))),))
        book = Book(drawing)
        book.enter(((), (3,)), comes(drawing, ((), (3,))))
        book.enter(question, old)
        book.enter(((0,), (1,)), comes(drawing, ((0,), (1,))))
        order = [((), (3,)), question, ((0,), (1,))]
        self.assertEqual(book.questions(), order)
        first = book.formula(question)
        text = book.text()
        book.enter(question, new)
        self.assertEqual(book.questions(), order)
        self.assertEqual(book.answer(question), new)
        self.assertNotEqual(book.formula(question), first)
        entries = [(asked, book.answer(asked)) for asked in order]
        self.assertEqual(book.text(), text_by_words(drawing, entries))
        self.assertNotEqual(book.text(), text)
        book.enter(question, old)
        self.assertEqual((book.text(), book.formula(question)), (text, first))

    def test_a_nest_in_the_place_of_another_one(self):
        drawing = Drawing(3, [(0, 1), (1, 2)], [(0, 1), (1, 2)])
        book = Book(drawing)
        book.enter(((), (0,)), comes(drawing, ((), (0,))))
        book.enter(((0,), (2,)), ("nest", (1, 2), (0, 1, 2)))
        book.enter(((0,), (1,)), ("nest", (1,), (0, 1)))
        book.enter(((0,), (2,)), ("nest", (1,), (0, 1)))
        self.assertEqual(book.questions(), [((), (0,)), ((0,), (2,)), ((0,), (1,))])
        self.assertEqual(book.answer(((0,), (2,))), ("nest", (1,), (0, 1)))


class RefusedTest(unittest.TestCase):
    def books(self):
        book = Book(BOW)
        book.fill(BOW_QUESTION)
        book.fill(((), (0,)))
        empty = Book(BOW)
        return [(book, state_of(book)), (empty, state_of(empty))]

    def check(self, book, state, wish, call, *handed):
        self.assertIs(refusal(call, *handed), wish)
        self.assertEqual(state_of(book), state)

    def test_answers_that_are_not_right(self):
        for book, state in self.books():
            for question, answer in [
                (BOW_QUESTION, ("formula", ())), (BOW_QUESTION, ("formula", (((1,), ()),))),
                (BOW_QUESTION, ("formula", (((1,), (("up", (1,)),)),))), (BOW_QUESTION, ("nest", (1,), (1,))),
                (BOW_QUESTION, ("nest", (0, 1), (0, 1))), (BOW_QUESTION, ("nest", (), ())),
                (((), (0,)), BOW_NEST), (((), (0,)), ("formula", (((0,), ()),))), (((1,), (0,)), BOW_NEST),
                (((1,), (0,)), ("formula", (((0,), (("lump", (0,)),)),))), (((), (1,)), ("formula", (((9,), ()),))),
                (((), (1,)), ("formula", (((0, 1), (("up", (-1,)),)),))),
            ]:
                self.check(book, state, NoAnswer, book.enter, question, answer)

    def test_many_answers(self):
        told = {True: 0, False: 0}
        for drawing in small_drawings()[::7] + some_drawings(4, 6, 1330):
            several = questions(drawing.count)[::3]
            answers = [comes(drawing, question) for question in several]
            for question in several:
                for answer in answers[::2]:
                    book = Book(drawing)
                    if answer[0] == "formula":
                        wish = lets_by_words(drawing, question, answer[1])
                    else:
                        wish = all(nest_conditions(drawing, question, answer[1], answer[2]).values())
                    told[wish] += 1
                    self.assertIs(refusal(book.enter, question, answer), None if wish else NoAnswer)
                    self.assertEqual(book.questions(), [question] if wish else [])
        self.assertGreater(min(told.values()), 50)

    def calls(self, book):
        """Each method with a question, whatever else is handed in."""
        told = [lambda question, answer=answer: book.enter(question, answer) for answer in [
            BOW_NEST, ("nest", (), ()), ("formula", ()), ("formula", (((9,), (("side", (-1,)),)),)),
        ]]
        told += [lambda question, handed=handed: book.worth_of(question, *handed) for handed in NO_TABLES]
        return told + [book.fill, book.answer, book.formula]

    def test_no_name_is_first_in_each_method(self):
        for book, state in self.books():
            for call in self.calls(book):
                for wrong in NO_SETS:
                    for question in [(wrong, (1,)), ((0,), wrong), (wrong, wrong), (wrong, ()), ((), wrong)]:
                        self.assertIs(refusal(call, question), NoName)
                for question in [((2,), (1,)), ((0, 2), (0,)), ((0,), (0, 0)), ((0,), (2,))]:
                    self.check(book, state, NoName, call, question)

    def test_no_sets_in_each_method(self):
        for book, state in self.books():
            for call in self.calls(book):
                for question in [((0,), (0,)), ((), ()), ((0,), ()), ((0, 1), (1,)), ((0, 1), ())]:
                    self.check(book, state, NoSets, call, question)

    def test_a_nests_sets_that_are_none(self):
        for book, state in self.books():
            for question in [BOW_QUESTION, ((1,), (0,)), ((0,), (0,)), ((), ()), ((0,), ())]:
                for wrong in [(2,), (-1,), (0, 0), (1, 0), (10 ** 70,)]:
                    for answer in [("nest", wrong, (0, 1)), ("nest", (1,), wrong), ("nest", wrong, wrong)]:
                        self.check(book, state, NoName, book.enter, question, answer)

    def test_questions_that_are_not_there(self):
        for book, state in self.books():
            for question in [((), (1,)), ((1,), (0,)), ((), (0, 1))]:
                self.check(book, state, NoQuestion, book.answer, question)
                self.check(book, state, NoQuestion, book.formula, question)
                for handed in NO_TABLES:
                    self.check(book, state, NoQuestion, book.worth_of, question, *handed)

    def test_no_formula_where_a_nest_answers(self):
        book, state = self.books()[0]
        self.check(book, state, NoFormula, book.formula, BOW_QUESTION)
        for handed in NO_TABLES:
            self.check(book, state, NoFormula, book.worth_of, BOW_QUESTION, *handed)


class FillTest(unittest.TestCase):
    def test_where_the_question_is_not_there(self):
        for count in range(1, 6):
            for turn, drawing in enumerate(some_drawings(count, 10, 1340 + count)):
                book = Book(drawing)
                several = questions(count)
                several = several[turn % 3::len(several) // 8 + 1]
                for question in several:
                    self.assertIsNone(book.fill(question))
                    answer = book.answer(question)
                    if answer[0] == "formula":
                        self.assertTrue(lets_by_words(drawing, question, answer[1]))
                    else:
                        self.assertTrue(all(nest_conditions(drawing, question, answer[1], answer[2]).values()))
                self.assertEqual(book.questions(), several)

    def test_where_the_question_is_there_nothing_changes(self):
        drawing = Drawing(4, [], [(0, 1), (1, 2), (2, 3)])
        question = ((1, 2, 3), (0,))
        for cuts in ((("up", (0,)),), (("up", (0, 2)), ("lump", (0,))), (("up", (0, 1)), ("up", (0,)))):
            book = Book(drawing)
            book.enter(question, ("formula", (((0,), cuts),)))
            book.fill(((), (1,)))
            state = state_of(book)
            book.fill(question)
            self.assertEqual(state_of(book), state)
            self.assertEqual(book.answer(question), ("formula", (((0,), cuts),)))
        drawing = Drawing(3, [(0, 1), (1, 2)], [(0, 1), (1, 2)])
        for nest in (("nest", (1,), (0, 1)), ("nest", (1, 2), (0, 1, 2))):
            book = Book(drawing)
            book.enter(((0,), (2,)), nest)
            book.fill(((0,), (2,)))
            self.assertEqual(book.answer(((0,), (2,))), nest)


class WorthTest(unittest.TestCase):
    def test_in_full_worlds_for_all_values(self):
        seen = 0
        for count, times in ((2, 8), (3, 10), (4, 8)):
            for turn, drawing in enumerate(some_drawings(count, times, 1350 + count)):
                world = world_of(drawing, turn, 3 if count < 4 else 2, 2)
                book = Book(drawing)
                table = world.seen()
                several = questions(count)
                for question in several[turn % 3::len(several) // 5 + 1]:
                    book.fill(question)
                    if book.answer(question)[0] == "nest":
                        continue
                    seen += 1
                    for way in all_values(world.sizes):
                        values = dict(enumerate(way))
                        on = [tuple(values[name] for name in names) for names in question]
                        wish = set_share(world, question[0], on[0], question[1], on[1])
                        self.assertEqual(book.worth_of(question, world.sizes, table, values), wish)
                        self.assertEqual(book.worth_of(question, list(world.sizes), table, values), wish)
        self.assertGreater(seen, 60)

    def test_any_table(self):
        book = Book(FRONT)
        book.fill(FRONT_QUESTION)
        table = {values: pair_of(Fraction(1 + place, 5)) for place, values in enumerate(all_values((2, 2, 2)))}
        for way in all_values((2, 2, 2)):
            values = dict(enumerate(way))
            handed = copy.deepcopy((table, values))
            wish = worth_by_words(book.formula(FRONT_QUESTION), (2, 2, 2), as_fractions(table), values)
            self.assertEqual(book.worth_of(FRONT_QUESTION, (2, 2, 2), table, values), pair_of(wish))
            self.assertEqual((table, values), handed)

    def test_a_quotient_by_0(self):
        book = Book(FRONT)
        book.fill(FRONT_QUESTION)
        table = {values: (0, 1) for values in all_values((2, 2, 2))}
        table[(0, 0, 0)] = (1, 1)
        self.assertIs(refusal(book.worth_of, FRONT_QUESTION, (2, 2, 2), table, {0: 1, 1: 0, 2: 0}), NoShare)


class OwnTest(unittest.TestCase):
    def test_told_lists_are_the_askers_own(self):
        book = Book(DRAWING)
        book.fill(((), (2,)))
        book.fill(((0,), (2,)))
        state = state_of(book)
        told = book.questions()
        told.append(((), (0,)))
        told[0] = None
        self.assertEqual(state_of(book), state)
        book.questions().clear()
        self.assertEqual(state_of(book), state)

    def test_what_was_told_stays(self):
        book = Book(DRAWING)
        book.fill(((), (2,)))
        told = state_of(book)
        kept = copy.deepcopy(told)
        book.fill(((0,), (2,)))
        book.fill(((1,), (0,)))
        self.assertEqual(told, kept)

    def test_the_drawing_stays_as_it_was(self):
        ties = [[0, 1], [1, 2]]
        drawing = Drawing(3, ties, [(0, 2)])
        book = Book(drawing)
        ties.clear()
        book.fill(FRONT_QUESTION)
        self.assertEqual(book.answer(FRONT_QUESTION), ("formula", FRONT_PAPER))
        self.assertEqual(drawing.shape(), (3, ((0, 1), (1, 2)), ((0, 2),)))
        state = state_of(book)
        drawing.ties = ()
        drawing.bows = ()
        drawing.count = 1
        self.assertEqual(state_of(book), state)
        book.fill(((1,), (2,)))
        self.assertEqual(len(book.questions()), 2)

    def test_two_books_of_one_drawing(self):
        one, other = Book(DRAWING), Book(DRAWING)
        one.fill(((), (0,)))
        self.assertEqual(other.questions(), [])
        other.fill(((), (1,)))
        self.assertEqual(one.questions(), [((), (0,))])


class TextTest(unittest.TestCase):
    def test_written_out(self):
        book = Book(BOW)
        self.assertEqual(book.text(), "2: a>b a~b")
        book.fill(BOW_QUESTION)
        self.assertEqual(book.text(), "2: a>b a~b\nset a asked b: none by b in a b")
        book.enter(((), (0,)), ("formula", (((0,), (("up", (0,)),)),)))
        row = "asked a: sum(b: ((P(a) / P()) * (P(a b) / P(a))))"
        self.assertEqual(book.text(), "2: a>b a~b\nset a asked b: none by b in a b\n" + row)
        book = Book(Drawing(3, [(0, 1), (1, 2)], []))
        book.fill(((0, 1), (2,)))
        book.fill(((), (0, 1, 2)))
        self.assertEqual(
            book.text(),
            "3: a>b b>c\nset a b asked c: (P(a b c) / P(a b))"
            "\nasked a b c: (((P(a) / P()) * (P(a b) / P(a))) * (P(a b c) / P(a b)))",
        )
        self.assertEqual(Book(Drawing(1, [], [])).text(), "1:")

    def test_a_nest_of_several_names(self):
        drawing = Drawing(3, [(0, 1), (1, 2)], [(0, 1), (1, 2)])
        book = Book(drawing)
        book.enter(((0,), (1, 2)), ("nest", (1, 2), (0, 1, 2)))
        self.assertEqual(book.text(), "3: a>b b>c a~b b~c\nset a asked b c: none by b c in a b c")

    def test_it_does_not_end_in_a_line_end(self):
        book = Book(FRONT)
        for question in questions(3):
            book.fill(question)
            self.assertFalse(book.text().endswith("\n"))
        self.assertEqual(len(book.text().split("\n")), 1 + len(questions(3)))


if __name__ == "__main__":
    unittest.main()
