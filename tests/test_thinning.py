"""Points 42 to 44, and of points 1 and 5 what they say of them: doingbook/thinning.py."""

import unittest
from random import Random

from doingbook.conditions import comes_given, formula_given
from doingbook.cuts import formula_of
from doingbook.doors import back_doors, back_formula, front_doors, front_formula
from doingbook.drawings import Drawing
from doingbook.errors import NoName, NoThinning
from doingbook.finder import comes
from doingbook.formulas import open_names, worth
from doingbook.thinning import after, goes, thinned
from tests.forms import ONE, as_fractions, flat_product, open_by_words, seen, strewn_formula, worth_by_words
from tests.support import (
    NO_SETS, all_sets, all_values, is_barred_by_words, less, pair_of, questions, refusal, some_drawings, statements,
    world_of,
)

SHORTER = ("gather", "all", "one", "same", "back")
WORDS = SHORTER + ("out", "barred")
# The first name works on the second one, that one on the third.
ROW = Drawing(3, [(0, 1), (1, 2)], [])


def given(more, fewer):
    return ("over", ("seen", more), ("seen", fewer))


def plain_by_words(formula, word):
    """What comes of a formula by a word that names aren't spoken of for, None where it doesn't go."""
    match word, formula:
        case "gather", ("sum", n, ("seen", g)) if set(n) <= set(g):
            return ("seen", less(g, n))
        case "all", ("sum", n, ("over", ("seen", g), ("seen", h))) if set(n) <= set(g) and set(h) == set(g) - set(n):
            return ONE
        case ("one", ("times", ("one",), a)) | ("one", ("times", a, ("one",))) | ("one", ("over", a, ("one",))):
            return a
        case "one", ("seen", ()):
            return ONE
        case "same", ("over", a, b) if a == b:
            return ONE
        case "back", ("times", ("over", a, b), c) if b == c:
            return a
        case "back", ("times", c, ("over", a, b)) if b == c:
            return a
        case "out", ("sum", n, ("times", a, b)) if not set(n) & open_by_words(a):
            return ("times", a, ("sum", n, b))
    return None


def barred_conditions(drawing, formula, names):
    """Each condition of the word barred, by point 42, of a seen share over another one."""
    (over, (word, g), (other, h)) = formula
    told = {
        "names are of H": set(names) <= set(h),
        "names are not all of H": set(names) != set(h),
        "names aren't empty": bool(names),
        "H is in G": set(h) <= set(g),
        "G has others besides": bool(set(g) - set(h)),
    }
    if all(told.values()):
        told["barred"] = is_barred_by_words(drawing, less(g, h), names, less(h, names))
    return told


def by_words(drawing, formula, word, names):
    if word == "barred":
        match formula:
            case ("over", ("seen", g), ("seen", h)) if all(barred_conditions(drawing, formula, names).values()):
                return given(less(g, names), less(h, names))
        return None
    return None if names else plain_by_words(formula, word)


def inner_parts(formula):
    match formula:
        case ("times" | "over", a, b):
            return [a, b]
        case ("sum", n, a):
            return [a]
    return []


def all_places(formula, ahead=()):
    """Every place of a formula, with what stands there."""
    told = [(ahead, formula)]
    for number, part in enumerate(inner_parts(formula)):
        told += all_places(part, ahead + (number,))
    return told


def put_by_words(formula, place, new):
    if not place:
        return new
    match formula:
        case ("sum", n, a):
            return ("sum", n, put_by_words(a, place[1:], new))
        case (word, a, b):
            first = place[0] == 0
            return (word, put_by_words(a, place[1:], new), b) if first else (word, a, put_by_words(b, place[1:], new))


def strewn_thick(chance, count, depth):
    """A formula in which words often go."""
    names = all_sets(count)
    g = chance.choice(names[1:])
    n = tuple(sorted(chance.sample(g, chance.randint(1, len(g)))))
    inner = strewn_thick(chance, count, depth - 1) if depth > 1 else ("seen", chance.choice(names))
    other = strewn_formula(chance, count, 2)
    return chance.choice([
        ("sum", n, ("seen", g)), ("sum", n, given(g, less(g, n))), ("times", ONE, inner), ("times", inner, ONE),
        ("over", inner, ONE), seen(), ("over", inner, inner), ("times", ("over", inner, other), other),
        ("times", other, ("over", inner, other)), ("sum", n, ("times", inner, other)),
        ("sum", n, ("times", ("seen", less(names[-1], n)), inner)), given(names[-1], less(names[-1], n[:1])),
        ("times", inner, other), ("over", inner, other), ("sum", n, inner), given(g, n), inner,
    ])


def strewn_formulas(count, times, seed):
    chance = Random(seed)
    return [strewn_thick(chance, count, 1 + turn % 5) for turn in range(times)]


def told_formulas(times):
    """Formulas of papers, conditions and doors, with their drawings."""
    told = []
    for count in range(1, 6):
        for turn, drawing in enumerate(some_drawings(count, times, 1100 + count)):
            several = questions(count)
            for question in several[turn % 4::len(several) // 4 + 1]:
                answer = comes(drawing, question)
                if answer[0] == "formula":
                    told.append((drawing, formula_of(drawing, question, answer[1])))
                told += [(drawing, back_formula(drawing, *question, door)) for door in back_doors_of(drawing, question)]
                told += [(drawing, front_formula(drawing, *question, d)) for d in front_doors_of(drawing, question)]
            several = statements(count)
            for statement in several[turn % 4::len(several) // 3 + 1]:
                if comes_given(drawing, statement)[0] == "quotient":
                    told.append((drawing, formula_given(drawing, statement)))
    return told


def back_doors_of(drawing, question):
    return back_doors(drawing, *question) if question[0] else []


def front_doors_of(drawing, question):
    return front_doors(drawing, *question) if len(question[0]) == 1 else []


class GoesTest(unittest.TestCase):
    def check(self, drawing, formula, thinning, wish):
        with self.subTest(shape=drawing.shape(), formula=formula, thinning=thinning):
            self.assertIs(goes(drawing, formula, thinning), wish is not None)
            if wish is None:
                self.assertIs(refusal(after, drawing, formula, thinning), NoThinning)
            else:
                self.assertEqual(after(drawing, formula, thinning), wish)

    def check_everywhere(self, drawing, formula, sets, told):
        """Every word at every place, with the empty set and these sets of names."""
        for place, stands in all_places(formula):
            for word in WORDS + ("", "out ", "One", "none"):
                for names in [(), *sets]:
                    new = by_words(drawing, stands, word, names)
                    told[(word, place != (), new is not None)] = told.get((word, place != (), new is not None), 0) + 1
                    wish = None if new is None else put_by_words(formula, place, new)
                    self.check(drawing, formula, (place, word, names), wish)

    def test_strewn_formulas(self):
        told = {}
        for count in range(1, 5):
            drawings = some_drawings(count, 16, 1120 + count)
            for turn, formula in enumerate(strewn_formulas(count, 120, 1130 + count)):
                several = all_sets(count)[1:]
                self.check_everywhere(drawings[turn % 16], formula, several[turn % 3::3], told)
        for word in WORDS:
            for within in (False, True):
                for goes_there in (False, True):
                    least = 1 if word == "barred" else 10
                    self.assertGreater(told.get((word, within, goes_there), 0), least, (word, within, goes_there))

    def test_told_formulas(self):
        for drawing, formula in told_formulas(3)[::5]:
            if len(all_places(formula)) < 60:
                self.check_everywhere(drawing, formula, all_sets(drawing.count)[1:2], {})

    def test_places_that_lead_nowhere(self):
        formula = ("sum", (0,), ("times", ("over", seen(0, 1), seen(1)), ONE))
        for place in [
            (1,), (2,), (-1,), (0, 2), (0, -1), (0, 0, 0, 0), (0, 0, 1, 0), (0, 1, 0), (0, 0, 2), (-1, 0), (0, 0, 0, 1),
            (10 ** 70,), (0,) * 70,
        ]:
            for word in WORDS + ("",):
                for names in ((), (0,), (1,)):
                    self.check(ROW, formula, (place, word, names), None)
        for place in [(0,), (0, 0), (0, 0, 0)]:
            self.check(ROW, ONE, (place, "one", ()), None)
            self.check(ROW, seen(), (place, "one", ()), None)

    def test_gather(self):
        for formula, wish in [
            (("sum", (1,), seen(0, 1, 2)), seen(0, 2)), (("sum", (0, 2), seen(0, 2)), seen()),
            (("sum", (1,), seen(0, 2)), None), (("sum", (0, 1), seen(0, 2)), None), (("sum", (1,), seen()), None),
            (("sum", (1,), ONE), None), (("sum", (1,), ("times", seen(1), ONE)), None), (seen(0, 1), None),
            (("times", seen(0, 1), ONE), None), (("sum", (0,), ("sum", (1,), seen(0, 1))), None),
        ]:
            self.check(ROW, formula, ((), "gather", ()), wish)

    def test_all(self):
        for formula, wish in [
            (("sum", (1,), given((0, 1, 2), (0, 2))), ONE), (("sum", (0, 2), given((0, 2), ())), ONE),
            (("sum", (1,), given((0, 1, 2), (0,))), None), (("sum", (1,), given((0, 1, 2), (0, 1, 2))), None),
            (("sum", (1,), given((0, 2), (0, 2))), None), (("sum", (1, 2), given((0, 1), (0,))), None),
            (("sum", (1,), given((0, 1), (0, 2))), None), (("sum", (1,), given((0, 1), ())), None),
            (given((0, 1), (0,)), None), (("sum", (1,), ("times", seen(0, 1), seen(0))), None),
            (("sum", (1,), ("over", ONE, seen(0))), None), (("sum", (1,), ("over", seen(1), ONE)), None),
        ]:
            self.check(ROW, formula, ((), "all", ()), wish)

    def test_one(self):
        for formula, wish in [
            (("times", ONE, seen(1)), seen(1)), (("times", seen(1), ONE), seen(1)), (("over", seen(1), ONE), seen(1)),
            (seen(), ONE), (("times", ONE, ONE), ONE), (("over", ONE, ONE), ONE), (("over", ONE, seen(1)), None),
            (ONE, None), (seen(0), None), (("times", seen(0), seen(1)), None), (("sum", (0,), ONE), None),
            (("times", seen(), seen(0)), None), (("over", seen(0), seen()), None), (("sum", (0,), seen()), None),
        ]:
            self.check(ROW, formula, ((), "one", ()), wish)

    def test_same(self):
        deep = ("sum", (0,), ("times", given((0, 1), (1,)), seen(2)))
        for formula, wish in [
            (("over", deep, deep), ONE), (("over", ONE, ONE), ONE), (("over", seen(), seen()), ONE),
            (("over", ("times", seen(0), seen(1)), ("times", seen(1), seen(0))), None), (("over", seen(), ONE), None),
            (("times", deep, deep), None), (given((0, 1), (1,)), None), (deep, None),
        ]:
            self.check(ROW, formula, ((), "same", ()), wish)

    def test_back(self):
        a, b = ("sum", (0,), given((0, 1), (1,))), ("times", seen(0), seen(2))
        for formula, wish in [
            (("times", ("over", a, b), b), a), (("times", b, ("over", a, b)), a), (("times", ("over", a, b), a), None),
            (("times", a, ("over", a, b)), None), (("over", ("over", a, b), b), None), (("times", a, b), None),
            (("times", ("times", a, b), b), None), (("times", ("over", b, b), b), b), (("over", a, b), None),
            (("times", ("over", ("over", a, b), b), b), ("over", a, b)), (("sum", (0,), ("over", a, b)), None),
            (("times", ("over", a, ONE), ONE), a),
        ]:
            self.check(ROW, formula, ((), "back", ()), wish)

    def test_out(self):
        for formula, wish in [
            (("sum", (1,), ("times", seen(0), seen(1))), ("times", seen(0), ("sum", (1,), seen(1)))),
            (("sum", (1, 2), ("times", seen(0), seen(0))), ("times", seen(0), ("sum", (1, 2), seen(0)))),
            (("sum", (1,), ("times", ONE, ONE)), ("times", ONE, ("sum", (1,), ONE))),
            (("sum", (1,), ("times", seen(1), seen(0))), None), (("sum", (0, 1), ("times", seen(0), seen(1))), None),
            (("sum", (1,), ("over", seen(0), seen(1))), None), (("times", seen(0), seen(1)), None),
            (("sum", (1,), seen(1)), None), (("sum", (1,), ("sum", (0,), ("times", seen(2), seen(0)))), None),
            # A name that is summed within isn't open there.
            (
                ("sum", (1,), ("times", ("sum", (1,), seen(0, 1)), seen(1))),
                ("times", ("sum", (1,), seen(0, 1)), ("sum", (1,), seen(1))),
            ),
        ]:
            self.check(ROW, formula, ((), "out", ()), wish)

    def test_barred(self):
        formula = given((0, 1, 2), (0, 1))
        self.check(ROW, formula, ((), "barred", (0,)), given((1, 2), (1,)))
        self.check(ROW, formula, ((), "barred", (1,)), None)
        self.check(ROW, ("sum", (1,), formula), ((0,), "barred", (0,)), ("sum", (1,), given((1, 2), (1,))))
        for wrong in [("times", *formula[1:]), ("sum", (2,), formula), seen(0), ONE, ("over", formula, seen(1))]:
            self.check(ROW, wrong, ((), "barred", (0,)), None)
        self.check(ROW, ("over", seen(0, 1, 2), ("sum", (2,), seen(0, 1, 2))), ((), "barred", (0,)), None)

    def test_each_condition_of_barred_alone_fails(self):
        alone = set()
        for count in (3, 4):
            for turn, drawing in enumerate(some_drawings(count, 12, 1140 + count)):
                sets = all_sets(count)
                for g in sets[turn % 2::2]:
                    for h in sets:
                        for names in sets:
                            told = barred_conditions(drawing, given(g, h), names)
                            wrong = [words for words, holds in told.items() if not holds]
                            alone.add(tuple(wrong))
                            if len(wrong) < 2:
                                wish = None if wrong else given(less(g, names), less(h, names))
                                self.check(drawing, given(g, h), ((), "barred", names), wish)
        self.assertLessEqual(
            {
                (), ("names are of H",), ("names are not all of H",), ("names aren't empty",), ("H is in G",),
                ("G has others besides",), ("barred",),
            },
            alone,
        )

    def test_names_that_must_be_empty(self):
        for formula, word in [
            (("sum", (1,), seen(0, 1)), "gather"), (("sum", (1,), given((0, 1), (0,))), "all"), (seen(), "one"),
            (("over", seen(0), seen(0)), "same"), (("times", ("over", ONE, seen(0)), seen(0)), "back"),
            (("sum", (1,), ("times", seen(0), seen(1))), "out"),
        ]:
            self.assertIs(goes(ROW, formula, ((), word, ())), True)
            for names in all_sets(3)[1:]:
                self.check(ROW, formula, ((), word, names), None)

    def test_no_name_is_first(self):
        drawing = Drawing(6, ROW.ties, [])
        for wrong in NO_SETS:
            for formula, place, word in [
                (seen(), (), "one"), (seen(0), (), "one"), (given((0, 1, 2), (0, 1)), (), "barred"),
                (seen(), (0, 1, 2), "one"), (ONE, (), "none"), (ONE, (-1,), ""),
            ]:
                self.assertIs(refusal(goes, drawing, formula, (place, word, wrong)), NoName)
                self.assertIs(refusal(after, drawing, formula, (place, word, wrong)), NoName)
        self.assertIs(refusal(goes, ROW, given((0, 1, 2), (0, 1)), ((), "barred", (3,))), NoName)


class ThinnedTest(unittest.TestCase):
    def check(self, drawing, formula):
        shape = drawing.shape()
        told = thinned(drawing, formula)
        self.assertEqual(drawing.shape(), shape)
        self.assertEqual([type(told), len(told), type(told[1])], [tuple, 2, list])
        self.assertLessEqual(len(told[1]), 400)
        stands = formula
        for place, word, names in told[1]:
            part = dict(all_places(stands)).get(place)
            self.assertIsNotNone(part)
            new = by_words(drawing, part, word, names)
            self.assertIsNotNone(new)
            stands = put_by_words(stands, place, new)
        self.assertEqual(told[0], stands)
        if len(told[1]) < 400:
            for place, part in all_places(told[0]):
                for word in SHORTER:
                    self.assertIsNone(plain_by_words(part, word))
        return told

    def test_strewn_formulas(self):
        words = {}
        for count in range(1, 5):
            drawings = some_drawings(count, 16, 1150 + count)
            for turn, formula in enumerate(strewn_formulas(count, 300, 1160 + count)):
                with self.subTest(formula=formula):
                    for place, word, names in self.check(drawings[turn % 16], formula)[1]:
                        words[word] = words.get(word, 0) + 1
        self.assertGreater(min(words[word] for word in SHORTER), 30)

    def test_told_formulas(self):
        for drawing, formula in told_formulas(6):
            with self.subTest(shape=drawing.shape(), formula=formula):
                self.check(drawing, formula)

    def test_what_can_not_be_thinned(self):
        for formula in (ONE, seen(0), given((0, 1), (0,)), ("sum", (0,), ("times", seen(0), seen(0, 1)))):
            self.assertEqual(thinned(ROW, formula), (formula, []))

    def test_one_thinning_makes_way_for_another(self):
        formula = ("times", ("sum", (0, 1), seen(0, 1)), ("over", ("sum", (1,), given((0, 1), (0,))), seen()))
        self.assertEqual(self.check(ROW, formula)[0], ONE)
        formula = ("sum", (1,), ("times", ("over", ("sum", (2,), seen(0, 1, 2)), seen(0)), seen(0)))
        self.assertEqual(self.check(ROW, formula)[0], seen(0))

    def test_many_deep(self):
        formula = seen(0)
        for turn in range(59):
            formula = ("times", ONE, formula) if turn % 2 else ("over", formula, ONE)
        told = self.check(ROW, formula)
        self.assertEqual(told[0], seen(0))
        self.assertEqual(len(told[1]), 59)

    def test_very_many_thinnings(self):
        for many, wish in ((399, 399), (400, 400), (401, 400), (900, 400)):
            formula = flat_product([("over", seen(turn % 3), ONE) for turn in range(many)])
            told = self.check(ROW, formula)
            self.assertEqual(len(told[1]), wish)
        formula = flat_product([("over", seen(turn % 3), seen(turn % 3)) for turn in range(900)])
        self.check(ROW, formula)

    def test_told_lists_are_the_askers_own(self):
        formula = ("times", ONE, ("sum", (1,), seen(0, 1)))
        first = thinned(ROW, formula)
        kept = list(first[1])
        first[1].clear()
        self.assertEqual(thinned(ROW, formula), (seen(0), kept))


class SameWorthTest(unittest.TestCase):
    """Point 44."""

    def check(self, world, formula, thinning):
        new = after(world.drawing, formula, thinning)
        self.assertLessEqual(set(open_names(new)), set(open_names(formula)))
        table = world.seen()
        for way in all_values(world.sizes):
            values = dict(enumerate(way))
            self.assertEqual(worth(new, world.sizes, table, values), worth(formula, world.sizes, table, values))

    def test_thinnings_of_each_word_in_full_worlds(self):
        words = {}
        for count in range(1, 5):
            drawings = some_drawings(count, 8, 1170 + count)
            worlds = [world_of(drawing, turn, 3 if count < 4 else 2, 2) for turn, drawing in enumerate(drawings)]
            formulas = strewn_formulas(count, 160, 1180 + count)
            formulas += [given(g, h) for g in all_sets(count) for h in all_sets(count) if set(h) < set(g)]
            for turn, formula in enumerate(formulas):
                world = worlds[turn % 8]
                for place, part in all_places(formula)[:12]:
                    for word in WORDS:
                        for names in all_sets(count) if word == "barred" else [()]:
                            if by_words(world.drawing, part, word, names) is not None and words.get(word, 0) < 90:
                                words[word] = words.get(word, 0) + 1
                                with self.subTest(shape=world.drawing.shape(), formula=formula, word=word):
                                    self.check(world, formula, (place, word, names))
        self.assertGreater(min(words[word] for word in WORDS), 25)

    def test_thinned_forms_in_full_worlds(self):
        worlds = {}
        for drawing, formula in told_formulas(4)[::6]:
            if drawing.shape() not in worlds:
                worlds[drawing.shape()] = world_of(drawing, len(worlds), 2, 2)
            world = worlds[drawing.shape()]
            self.assertIs(world.full(), True)
            new = thinned(drawing, formula)[0]
            self.assertLessEqual(set(open_names(new)), set(open_names(formula)))
            table = world.seen()
            for way in all_values(world.sizes):
                values = dict(enumerate(way))
                self.assertEqual(worth(new, world.sizes, table, values), worth(formula, world.sizes, table, values))

    def test_against_worths_reckoned_here(self):
        world = world_of(ROW, 7)
        table = as_fractions(world.seen())
        for formula in strewn_formulas(3, 60, 1190):
            new = thinned(ROW, formula)[0]
            for way in all_values(world.sizes)[::3]:
                values = dict(enumerate(way))
                wish = pair_of(worth_by_words(formula, world.sizes, table, values))
                self.assertEqual(worth(new, world.sizes, world.seen(), values), wish)


if __name__ == "__main__":
    unittest.main()
