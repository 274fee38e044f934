"""The book: a drawing, and answers to questions about it that have been looked at."""

from doingbook.cuts import formula_of, lets, need_question
from doingbook.drawings import Drawing
from doingbook.errors import NoAnswer, NoFormula, NoQuestion
from doingbook.finder import comes
from doingbook.formulas import worth
from doingbook.nests import bars
from doingbook.texts import formula_text, letters_of, written


def is_right(drawing, question, answer):
    if answer[0] == "formula":
        return lets(drawing, question, answer[1])
    return answer[0] == "nest" and bars(drawing, question, answer[1], answer[2])


def question_text(question):
    ahead = "set " + letters_of(question[0]) + " " if len(question[0]) > 0 else ""
    return ahead + "asked " + letters_of(question[1])


def nest_text(inner, outer):
    return "none by " + letters_of(inner) + " in " + letters_of(outer)


class Book:
    def __init__(self, drawing):
        self.drawing = Drawing(drawing.count, drawing.ties, drawing.bows)
        self.answers = {}

    def enter(self, question, answer):
        if not is_right(self.drawing, question, answer):
            raise NoAnswer("the paper isn't let by, or the nest doesn't bar")
        self.answers[question] = answer

    def fill(self, question):
        if question not in self.answers:
            self.enter(question, comes(self.drawing, question))

    def questions(self):
        return list(self.answers)

    def answer(self, question):
        need_question(self.drawing, question)
        if question not in self.answers:
            raise NoQuestion("this question isn't in the book")
        return self.answers[question]

    def formula(self, question):
        told = self.answer(question)
        if told[0] == "nest":
            raise NoFormula("a nest answers this question")
        return formula_of(self.drawing, question, told[1])

    def worth_of(self, question, sizes, table, values):
        return worth(self.formula(question), sizes, table, values)

    def answer_text(self, question):
        told = self.answer(question)
        if told[0] == "nest":
            return nest_text(told[1], told[2])
        return formula_text(self.formula(question))

    def text(self):
        rows = [question_text(question) + ": " + self.answer_text(question) for question in self.questions()]
        return "\n".join([written(self.drawing)] + rows)
