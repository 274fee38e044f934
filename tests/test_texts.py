"""Points 45 and 46, and of point 1 what it says of them: doingbook/texts.py."""

import unittest
from functools import lru_cache
from random import Random

from doingbook.conditions import comes_given, formula_given
from doingbook.cuts import formula_of
from doingbook.drawings import Drawing
from doingbook.errors import NoText
from doingbook.finder import comes
from doingbook.texts import formula_read, formula_text, read, written
from tests.forms import (
    LETTERS, ONE, drawing_text_by_words, flat_product, formula_text_by_words, seen, strewn_formula,
)
from tests.support import all_pairs, all_sets, drawings_to_ask, questions, small_drawings, some_drawings, statements

SIGNS = [chr(code) for code in range(32, 127)]


@lru_cache(maxsize=None)
def texts_of_count(count):
    """The text of every drawing of a count of names up to three."""
    return {drawing_text_by_words(drawing) for drawing in small_drawings() if drawing.count == count}


def is_drawing_text(text):
    """Whether a text is one of a drawing, told by its parts in order."""
    if len(text) < 2 or text[0] not in "123456" or text[1] != ":":
        return False
    letters = LETTERS[:int(text[0])]
    several = [letters[u] + sign + letters[v] for sign in ">~" for u, v in all_pairs(len(letters))]
    places = []
    rest = text[2:]
    while rest:
        if rest[0] != " " or rest[1:4] not in several:
            return False
        places.append(several.index(rest[1:4]))
        rest = rest[4:]
    bows = [place for place in places if place >= len(several) // 2]
    return places == sorted(set(places)) and len(bows) <= 6


# What may come of a formula, as rows of signs and of things that something may come of themselves.
WRITTEN_SETS = [" ".join(LETTERS[name] for name in names) for names in all_sets(6)]
CHOICES = {
    "FORMULA": [("1",), ("(", "FORMULA", "BETWEEN", "FORMULA", ")")]
    + [(f"P({names})",) for names in WRITTEN_SETS]
    + [(f"sum({names}: ", "FORMULA", ")") for names in WRITTEN_SETS if names],
    "BETWEEN": [(" * ",), (" / ",)],
}


@lru_cache(maxsize=None)
def behind(rows, sign):
    """What may come behind a sign, where these rows may come with it."""
    told = set()
    waiting = list(rows)
    while waiting:
        row = waiting.pop()
        if row and row[0] in CHOICES:
            waiting += [choice + row[1:] for choice in CHOICES[row[0]]]
        elif row and row[0][0] == sign:
            told.add(((row[0][1:],) if len(row[0]) > 1 else ()) + row[1:])
    return frozenset(told)


def longest_beginning(text):
    """How many signs the longest beginning has with which a formula's text begins, too; None where it is one."""
    rows = frozenset({("FORMULA",)})
    for place, sign in enumerate(text):
        rows = behind(rows, sign)
        if not rows:
            return place
    return None if () in rows else len(text)


def place_of(call, text):
    """At which place a text is refused, None where it isn't."""
    try:
        call(text)
    except NoText as error:
        assert type(error) is NoText and type(error.at) is int
        return error.at
    return None


def bent_texts(text, signs):
    """The text with a sign more, less or other at every place, cut off there, and with two signs exchanged."""
    for place in range(len(text) + 1):
        yield text[:place]
        yield text[place:]
        yield text[:place] + text[place + 1:]
        for sign in signs:
            yield text[:place] + sign + text[place:]
            yield text[:place] + sign + text[place + 1:]
        yield text[:place] + text[place + 1:place + 2] + text[place:place + 1] + text[place + 2:]


class DrawingTextTest(unittest.TestCase):
    def check(self, drawing):
        text = written(drawing)
        self.assertIs(type(text), str)
        self.assertEqual(text, drawing_text_by_words(drawing))
        self.assertIs(is_drawing_text(text), True)
        again = read(text)
        self.assertIs(type(again), Drawing)
        self.assertEqual(again.shape(), drawing.shape())

    def test_written_and_read_back(self):
        kinds = set()
        for drawing in drawings_to_ask() + [d for count in range(1, 7) for d in some_drawings(count, 28, 1200 + count)]:
            kinds.add((drawing.count, bool(drawing.ties), bool(drawing.bows)))
            with self.subTest(shape=drawing.shape()):
                self.check(drawing)
        wish = {(count, ties, bows) for count in range(2, 7) for ties in (False, True) for bows in (False, True)}
        self.assertEqual(kinds, wish | {(1, False, False)})

    def test_written_out(self):
        self.assertEqual(written(Drawing(4, [(1, 3), (0, 1)], [(0, 3)])), "4: a>b b>d a~d")
        self.assertEqual(written(Drawing(1, [], [])), "1:")
        self.assertEqual(written(Drawing(6, [], [])), "6:")
        self.assertEqual(written(Drawing(6, [(4, 5)], [])), "6: e>f")
        self.assertEqual(written(Drawing(3, [], [(1, 2), (0, 2)])), "3: a~c b~c")
        self.assertEqual(read("4: a>b b>d a~d").shape(), (4, ((0, 1), (1, 3)), ((0, 3),)))

    def test_bent_texts(self):
        answers = {True: 0, False: 0}
        for drawing in small_drawings()[::9] + some_drawings(5, 8, 1210) + some_drawings(6, 8, 1211):
            signs = SIGNS if drawing.count < 4 else list(" :>~abf0167A")
            for bent in bent_texts(written(drawing), signs):
                wish = is_drawing_text(bent)
                answers[wish] += 1
                with self.subTest(text=bent):
                    self.assertEqual(place_of(read, bent), None if wish else 0)
                    if wish:
                        self.assertEqual(drawing_text_by_words(read(bent)), bent)
        self.assertGreater(min(answers.values()), 50)

    def test_every_short_text(self):
        pieces = ["1", "2", "3", ":", " ", "a", "b", "c", ">", "~", "2:", " a>b", " a~b", "3:", " a>c", " b>c", " b~c"]
        told = 0
        for first in pieces + [""]:
            for second in pieces + [""]:
                for third in pieces + [""]:
                    text = first + second + third
                    wish = any(text in texts_of_count(count) for count in (1, 2, 3))
                    told += wish
                    self.assertEqual(place_of(read, text), None if wish else 0)
        self.assertGreater(told, 10)

    def test_texts_that_are_none(self):
        seven_bows = " ".join(["a~b", "a~c", "a~d", "a~e", "b~c", "b~d", "b~e"])
        for text in [
            "", " ", ":", "4", "0:", "7:", "10:", "-1:", "04:", "4: ", " 4:", "4:a>b", "4:  a>b", "4: a>b ",
            "4: a>b  b>c", "4: b>a", "4: a>a", "4: a>e", "4: e>f", "4: a>b a>b", "4: b>c a>b", "4: a~b a>b",
            "4: a~c a~b", "4: a~b a~b", "4: b~a", "4: a>b, b>c", "4: a<b", "4: a-b", "4: A>B", "4; a>b", "four: a>b",
            "4: a> b", "4: a >b", "4: ab", "4: a>", "4: >b", "4: a>~b", "4: a>b~c", "4: a>bb", "4: aa>b", "4: >",
            "4: ~", "4::", "4: a>b:", "4: 0>1", "4: a>g", "6: f>g", "4: a>b a~b a~b", "5: " + seven_bows,
        ]:
            with self.subTest(text=text):
                self.assertEqual(place_of(read, text), 0)
        self.assertEqual(len(read("5: " + seven_bows[:-4]).bows), 6)

    def test_a_very_long_text(self):
        self.assertEqual(place_of(read, "4:" + " a>b" * 499), 0)
        self.assertEqual(place_of(read, "9" * 2000), 0)


class FormulaTextTest(unittest.TestCase):
    def check(self, formula):
        text = formula_text(formula)
        self.assertIs(type(text), str)
        self.assertEqual(text, formula_text_by_words(formula))
        self.assertEqual(formula_read(text), formula)
        return text

    def test_each_kind(self):
        for formula, text in [
            (ONE, "1"), (seen(), "P()"), (seen(0), "P(a)"), (seen(0, 2, 5), "P(a c f)"),
            (("times", ONE, seen(1)), "(1 * P(b))"), (("over", seen(1), ONE), "(P(b) / 1)"),
            (("sum", (3,), ONE), "sum(d: 1)"), (("sum", (0, 4), seen(0, 4)), "sum(a e: P(a e))"),
            (("over", ("times", ONE, ONE), ("sum", (0,), seen())), "((1 * 1) / sum(a: P()))"),
        ]:
            self.assertEqual(self.check(formula), text)

    def test_every_set(self):
        for names in all_sets(6):
            self.check(("seen", names))
            if names:
                self.check(("sum", names, ONE))

    def test_strewn_formulas(self):
        chance = Random(6)
        for turn in range(600):
            self.check(strewn_formula(chance, 6, 1 + turn % 7))

    def test_told_formulas(self):
        for count in range(1, 7):
            for turn, drawing in enumerate(some_drawings(count, 10, 1220 + count)):
                several = questions(count)
                for question in several[turn % 5::len(several) // 6 + 1]:
                    answer = comes(drawing, question)
                    if answer[0] == "formula":
                        self.check(formula_of(drawing, question, answer[1]))
                several = statements(count)
                for statement in several[turn % 5::len(several) // 4 + 1]:
                    if comes_given(drawing, statement)[0] == "quotient":
                        self.check(formula_given(drawing, statement))

    def test_many_deep(self):
        for shape in range(4):
            formula = seen(0, 1)
            for turn in range(59):
                formula = [
                    ("times", formula, ONE), ("over", ONE, formula), ("sum", (turn % 6,), formula),
                    [("times", seen(), formula), ("sum", (0, 5), formula), ("over", formula, seen(2))][turn % 3],
                ][shape]
            self.check(formula)

    def test_many_parts(self):
        formula = flat_product([("over", seen(turn % 6), ("sum", (turn % 5,), seen())) for turn in range(70)])
        self.assertGreater(len(self.check(formula)), 1500)
        formula = flat_product([("seen", all_sets(6)[turn % 64]) for turn in range(1900)])
        self.check(formula)

    def check_bent(self, text):
        wish = longest_beginning(text)
        with self.subTest(text=text):
            self.assertEqual(place_of(formula_read, text), wish)
            if wish is None:
                self.assertEqual(formula_text_by_words(formula_read(text)), text)
        return wish is None

    def test_bent_texts(self):
        answers = {True: 0, False: 0}
        for text in [
            "1", "P()", "P(a)", "P(a c f)", "P(e f)", "(1 * P(b))", "(P(b) / 1)", "sum(d: 1)", "sum(a e f: P(a e))",
            "((1 * 1) / sum(a: P()))", "sum(a: (P(a b) / sum(b: P(a b))))",
        ]:
            for bent in bent_texts(text, SIGNS):
                answers[self.check_bent(bent)] += 1
        self.assertGreater(min(answers.values()), 100)

    def test_long_texts_bent(self):
        chance = Random(8)
        for turn in range(24):
            text = formula_text(strewn_formula(chance, 6, 6))
            if len(text) < 300:
                for bent in bent_texts(text, chance.sample(SIGNS, 3) + list(" )a")):
                    self.check_bent(bent)
        deep = "(" * 20 + "1" + " * sum(a f: 1))" * 20
        self.assertIsNone(place_of(formula_read, deep))
        for bent in bent_texts(deep, list("( f")):
            self.check_bent(bent)

    def test_every_short_text(self):
        pieces = ["1", "P(", ")", "(", " ", "a", "b", "f", "sum(", ": ", " * ", " / ", "*", ":", "s", "P"]
        for first in pieces + [""]:
            for second in pieces:
                for third in pieces:
                    for fourth in pieces[::2]:
                        text = first + second + third + fourth
                        self.assertEqual(place_of(formula_read, text), longest_beginning(text), text)

    def test_written_out(self):
        for text, at in [
            ("", 0), (" ", 0), ("2", 0), ("x", 0), ("p(a)", 0), ("p", 0), ("11", 1), ("1 ", 1), (" 1", 0), ("1 * 1", 1),
            ("P", 1), ("P(", 2), ("P(a", 3), ("P( a)", 2), ("P(a )", 4), ("P(a  b)", 4), ("P(ab)", 3), ("P(b a)", 4),
            ("P(a a)", 4), ("P(g)", 2), ("P(f )", 3), ("P(f a)", 3), ("P(a,b)", 3), ("P())", 3), ("P ()", 1),
            ("sum(: 1)", 4), ("sum()", 4), ("sum", 3), ("sum(a", 5), ("sum(a:1)", 6), ("sum(a :1)", 6), ("sum(a: 1", 8),
            ("sum(f :1)", 5), ("sum(a:  1)", 7), ("sum(a: )", 7), ("sum(a: 1))", 9), ("sums(a: 1)", 3), ("su(", 2),
            ("sum(b a: 1)", 6), ("sum(a a: 1)", 6), ("(", 1), ("(1", 2), ("(1)", 2), ("(1 *", 4), ("(1* 1)", 2),
            ("(1 *1)", 4), ("(1  * 1)", 3), ("(1 *  1)", 5), ("(1 + 1)", 3), ("(1 * 1", 6), ("(1 * 1 )", 6), ("()", 1),
            ("(1 * 1 * 1)", 6), ("(1 / )", 5), ("(1 * 1) ", 7), ("( 1 * 1)", 1), ("(P(a) / P(b)", 12), ("((1 * 1)", 8),
        ]:
            with self.subTest(text=text):
                self.assertEqual(longest_beginning(text), at)
                self.assertEqual(place_of(formula_read, text), at)

    def test_many_brackets_and_signs(self):
        self.assertEqual(place_of(formula_read, "(" * 60), 60)
        self.assertEqual(place_of(formula_read, "sum(a: " * 60), 420)
        self.assertEqual(place_of(formula_read, "sum(a: " * 60 + "x"), 420)
        text = "(" * 60 + "1" + " / 1)" * 60
        self.assertIsNone(place_of(formula_read, text))
        self.assertEqual(place_of(formula_read, text + ")"), len(text))
        self.assertEqual(place_of(formula_read, text[:-1]), len(text) - 1)
        self.assertEqual(place_of(formula_read, "1" * 2000), 1)
        self.assertEqual(place_of(formula_read, "P(a b c d e f" + " " * 1980), 13)


if __name__ == "__main__":
    unittest.main()
