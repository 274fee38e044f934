"""Texts of drawings and formulas, written and read."""

from doingbook.drawings import Drawing
from doingbook.errors import DoingError, NoText

LETTERS = "abcdef"
COUNTS = "0123456"


def letters_of(names):
    return " ".join([LETTERS[name] for name in names])


def pair_text(pair, sign):
    return LETTERS[pair[0]] + sign + LETTERS[pair[1]]


def written(drawing):
    ties = [pair_text(tie, ">") for tie in drawing.ties]
    bows = [pair_text(bow, "~") for bow in drawing.bows]
    return " ".join([str(drawing.count) + ":"] + ties + bows)


def pairs_with(parts, sign):
    return [(LETTERS.find(part[0]), LETTERS.find(part[-1])) for part in parts if sign in part]


def read(text):
    count = COUNTS.find(text[:1])
    parts = text.split(" ")[1:]
    ties = pairs_with(parts, ">")
    bows = pairs_with(parts, "~")
    try:
        drawing = Drawing(count, ties, bows)
    except DoingError:
        raise NoText(0)
    # Whatever was overlooked in reading: only a text that is written so is one.
    if written(drawing) != text:
        raise NoText(0)
    return drawing


def formula_text(formula):
    word = formula[0]
    if word == "one":
        return "1"
    if word == "seen":
        return "P(" + letters_of(formula[1]) + ")"
    if word == "sum":
        return "sum(" + letters_of(formula[1]) + ": " + formula_text(formula[2]) + ")"
    sign = " * " if word == "times" else " / "
    return "(" + formula_text(formula[1]) + sign + formula_text(formula[2]) + ")"


# Goes on by a sign only where the text of some formula can go on by it: so what was read ahead of a refusal is the
# longest beginning that is one of some formula's text, too.
class Reader:
    def __init__(self, signs):
        self.signs = signs
        self.place = 0

    def sign(self):
        return self.signs[self.place:self.place + 1]

    def step(self, choices):
        sign = self.sign()
        if sign not in choices:
            raise NoText(self.place)
        self.place = self.place + 1
        return sign

    def steps(self, signs):
        for sign in signs:
            self.step([sign])

    def name_from(self, least):
        return LETTERS.find(self.step(list(LETTERS[least:])))

    def names(self):
        told = [self.name_from(0)]
        # Behind the last letter there is none to come, so no blank either.
        while self.sign() == " " and told[-1] < len(LETTERS) - 1:
            self.steps(" ")
            told.append(self.name_from(told[-1] + 1))
        return tuple(told)

    def seen(self):
        self.steps("(")
        names = () if self.sign() == ")" else self.names()
        self.steps(")")
        return ("seen", names)

    def summed(self):
        self.steps("um(")
        names = self.names()
        self.steps(": ")
        inner = self.formula()
        self.steps(")")
        return ("sum", names, inner)

    def joined(self):
        first = self.formula()
        self.steps(" ")
        word = "times" if self.step(["*", "/"]) == "*" else "over"
        self.steps(" ")
        second = self.formula()
        self.steps(")")
        return (word, first, second)

    def formula(self):
        sign = self.step(["1", "P", "s", "("])
        if sign == "1":
            return ("one",)
        if sign == "P":
            return self.seen()
        return self.summed() if sign == "s" else self.joined()


def formula_read(text):
    reader = Reader(text)
    told = reader.formula()
    if reader.place < len(text):
        raise NoText(reader.place)
    return told
