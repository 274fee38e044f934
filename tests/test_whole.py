"""Point 1 and the interface, over the whole program: doingbook."""

import copy
import importlib
import inspect
import unittest

from doingbook import errors
from doingbook.barred import barred, is_road, is_shut
from doingbook.book import Book
from doingbook.conditions import comes_given, formula_given
from doingbook.cuts import formula_of, lets, wanted
from doingbook.doors import back_doors, back_formula, front_doors, front_formula, is_back_door, is_front_door
from doingbook.drawings import Drawing
from doingbook.finder import comes
from doingbook.formulas import open_names, worth
from doingbook.fractions import before, fraction, minus, over, plus, times
from doingbook.hanging import hanging
from doingbook.nests import bars
from doingbook.parted import parted
from doingbook.rules import end_of, joins
from doingbook.setting import set_share, set_share_where, set_world
from doingbook.texts import formula_read, formula_text, read, written
from doingbook.thinning import after, goes, thinned
from doingbook.worlds import World
from tests.support import parts_of_world, refusal

FUNCTIONS = {
    "fractions": "fraction(top, bottom) plus(a, b) minus(a, b) times(a, b) over(a, b) before(a, b)",
    "barred": "barred(drawing, ones, others, given) is_shut(drawing, ones, others, given, standings)"
    " is_road(drawing, ones, others, given, road, ways)",
    "setting": "set_share(world, setnames, setvalues, names, values)"
    " set_share_where(world, setnames, setvalues, names, values, others, theirs)"
    " set_world(world, setnames, setvalues)",
    "hanging": "hanging(drawing, ones, others, given, road, ways)",
    "formulas": "open_names(formula) worth(formula, sizes, table, values)",
    "cuts": "wanted(drawing, question) lets(drawing, question, paper) formula_of(drawing, question, paper)",
    "finder": "comes(drawing, question)",
    "nests": "bars(drawing, question, inner, outer)",
    "parted": "parted(drawing, question, inner, outer)",
    "thinning": "goes(drawing, formula, thinning) after(drawing, formula, thinning) thinned(drawing, formula)",
    "rules": "joins(drawing, number, statement, names) end_of(drawing, statement, chain)",
    "conditions": "comes_given(drawing, statement) formula_given(drawing, statement)",
    "doors": "is_back_door(drawing, one, other, door) is_front_door(drawing, one, other, door)"
    " back_doors(drawing, one, other) front_doors(drawing, one, other) back_formula(drawing, one, other, door)"
    " front_formula(drawing, one, other, door)",
    "texts": "written(drawing) formula_text(formula) read(text) formula_read(text)",
}
METHODS = {
    ("drawings", "Drawing"): "__init__(self, count, ties, bows) sources(self, name) followers(self, name)"
    " ancestors(self, names) descendants(self, names) lumps(self, names) part(self, names) cut_in(self, names)"
    " cut_out(self, names) shape(self)",
    ("worlds", "World"): "__init__(self, drawing, sizes, hidden, tables) seen(self) share(self, names, values)"
    " share_where(self, names, values, others, theirs) full(self)",
    ("book", "Book"): "__init__(self, drawing) enter(self, question, answer) fill(self, question) questions(self)"
    " answer(self, question) formula(self, question) worth_of(self, question, sizes, table, values) text(self)",
}
REFUSALS = (
    "NoFraction NoCount NoTie NoBow NoName NoSets NoWorld NoValue NoShare NoRoad NoRule BadPaper NoNest NoDoor"
    " NoThinning NoAnswer NoQuestion NoFormula BadStep NoText"
).split()

TIES = [[1, 2], [0, 1]]
FRONT_QUESTION = ((0,), (2,))
BOW_QUESTION = ((0,), (1,))
STATEMENT = ((1,), (), (0,))
FORMULA = ("times", ("one",), ("sum", (1,), ("seen", (0, 1))))
ROAD = [(0, "down", 1), (1, "down", 2)]


def told_rows(text):
    return [row.strip() + ")" for row in text.split(")") if row.strip()]


def as_row(name, call):
    return f"{name}({', '.join(inspect.signature(call).parameters)})"


def snapshot(thing):
    """What can be seen of a thing, apart from the thing itself."""
    if isinstance(thing, Drawing):
        return ("drawing", thing.shape())
    if isinstance(thing, World):
        return ("world", thing.drawing.shape(), thing.sizes, thing.hidden, thing.tables, list(thing.seen().items()))
    if isinstance(thing, Book):
        return ("book", thing.text(), thing.questions(), [thing.answer(question) for question in thing.questions()])
    if isinstance(thing, (list, tuple)):
        return (type(thing).__name__, [snapshot(part) for part in thing])
    if isinstance(thing, dict):
        return ("dict", [(key, snapshot(value)) for key, value in thing.items()])
    return copy.deepcopy(thing)


def spoil(thing):
    """Changes all lists and dicts in what was told or handed in."""
    if isinstance(thing, (list, tuple)):
        for part in thing:
            spoil(part)
    if isinstance(thing, list):
        thing.append("more")
        thing.reverse()
    if isinstance(thing, dict):
        thing.clear()
        thing["more"] = 1


def calls():
    """Calls of everything that the interface names, each with what is handed in, made anew."""
    front = Drawing(3, [(0, 1), (1, 2)], [(0, 2)])
    bow = Drawing(2, [(0, 1)], [(0, 1)])
    hidden, tables = parts_of_world(bow, [2, 2], [2], 5)
    world = World(bow, [2, 2], hidden, tables)
    standings = joins(front, 2, ((1,), (), ()), (0,))[1]
    paper = comes(front, FRONT_QUESTION)[1]
    table = world.seen()
    book = Book(front)
    book.fill(FRONT_QUESTION)
    told = [
        (fraction, 6, -4), (plus, (1, 2), (1, 3)), (minus, (1, 2), (1, 3)), (times, (1, 2), (1, 3)),
        (over, (1, 2), (1, 3)), (before, (1, 2), (1, 3)), (Drawing, 3, [list(tie) for tie in TIES], [[0, 2]]),
        (barred, front, (0,), (2,), ()), (barred, front, (0,), (1,), ()), (barred, bow, (0,), (1,), ()),
        (is_shut, front, (0,), (2,), (), list(standings)), (is_road, front, (0,), (2,), (), list(ROAD), []),
        (World, bow, [2, 2], copy.deepcopy(hidden), copy.deepcopy(tables)), (set_share, world, (0,), (1,), (1,), (0,)),
        (set_share_where, world, (), (), (1,), (0,), (0,), (1,)), (set_world, world, (0,), (1,)),
        (hanging, front, (0,), (2,), (), list(ROAD), []), (open_names, FORMULA),
        (worth, FORMULA, [2, 2], table, {0: 1}), (wanted, front, FRONT_QUESTION), (lets, front, FRONT_QUESTION, paper),
        (formula_of, front, FRONT_QUESTION, paper), (comes, front, FRONT_QUESTION), (comes, bow, BOW_QUESTION),
        (bars, bow, BOW_QUESTION, (1,), (0, 1)), (parted, bow, BOW_QUESTION, (1,), (0, 1)),
        (joins, front, 2, ((1,), (), ()), (0,)), (joins, front, 1, ((2,), (), ()), (0,)),
        (end_of, front, STATEMENT, [(2, (0,), "more", list(standings))]), (comes_given, front, STATEMENT),
        (formula_given, front, STATEMENT), (is_back_door, front, (1,), (2,), (0,)), (back_doors, front, (1,), (2,)),
        (is_front_door, front, (0,), (2,), (1,)), (front_doors, front, (0,), (2,)),
        (back_formula, front, (1,), (2,), (0,)), (front_formula, front, (0,), (2,), (1,)),
        (goes, front, FORMULA, ((), "one", ())), (after, front, FORMULA, ((), "one", ())), (thinned, front, FORMULA),
        (written, front), (formula_text, FORMULA), (read, "3: a>b"), (formula_read, "(1 * P(a b))"), (Book, front),
    ]
    for method in (front.sources, front.followers):
        told.append((method, 1))
    for method in (front.ancestors, front.descendants, front.lumps, front.part, front.cut_in, front.cut_out):
        told.append((method, (0, 2)))
    told += [
        (front.shape,), (world.seen,), (world.share, (0,), (1,)), (world.share_where, (0,), (1,), (1,), (0,)),
        (world.full,), (book.questions,), (book.answer, FRONT_QUESTION), (book.formula, FRONT_QUESTION), (book.text,),
        (book.worth_of, FRONT_QUESTION, [2, 2, 2], {(a, b, c): (1, 8) for a in (0, 1) for b in (0, 1) for c in (0, 1)},
         {0: 0, 1: 0, 2: 1}),
        (book.fill, ((), (1,))), (book.enter, FRONT_QUESTION, ("formula", paper)),
    ]
    return told


class InterfaceTest(unittest.TestCase):
    def test_functions(self):
        for module, rows in FUNCTIONS.items():
            there = vars(importlib.import_module("doingbook." + module))
            for row in told_rows(rows):
                name = row.split("(")[0]
                with self.subTest(row):
                    self.assertEqual(as_row(name, there[name]), row)

    def test_classes(self):
        for (module, name), rows in METHODS.items():
            there = getattr(importlib.import_module("doingbook." + module), name)
            for row in told_rows(rows):
                method = row.split("(")[0]
                with self.subTest(row):
                    self.assertEqual(as_row(method, getattr(there, method)), row)

    def test_all_that_is_named_is_called_here(self):
        called = {call[0].__name__ for call in calls()}
        for rows in [*FUNCTIONS.values(), *METHODS.values()]:
            names = {row.split("(")[0] for row in told_rows(rows)}
            self.assertLessEqual(names - {"__init__"}, called)
        self.assertLessEqual({"Drawing", "World", "Book"}, called)


class RefusalsTest(unittest.TestCase):
    def test_each_stands_right_where_it_should(self):
        several = [getattr(errors, name) for name in REFUSALS]
        for error in several:
            self.assertTrue(issubclass(error, errors.DoingError))
            self.assertTrue(issubclass(error, ValueError))
            self.assertEqual([other for other in several if issubclass(error, other)], [error])

    def test_each_is_raised_by_the_program(self):
        front = Drawing(3, [(0, 1), (1, 2)], [(0, 2)])
        bow = Drawing(2, [(0, 1)], [(0, 1)])
        book = Book(bow)
        filled = Book(bow)
        filled.fill(BOW_QUESTION)
        raised = {
            "NoFraction": (fraction, 1, 0), "NoCount": (Drawing, 7, [], []), "NoTie": (Drawing, 2, [(1, 0)], []),
            "NoBow": (Drawing, 2, [], [(0, 0)]), "NoName": (front.part, (3,)), "NoSets": (comes, front, ((), ())),
            "NoWorld": (World, bow, [1, 2], [], []), "NoRoad": (hanging, front, (0,), (2,), (), [], []),
            "NoRule": (joins, front, 4, STATEMENT, (2,)), "BadPaper": (formula_of, front, FRONT_QUESTION, ()),
            "NoNest": (parted, front, FRONT_QUESTION, (), ()), "NoDoor": (back_formula, front, (0,), (2,), ()),
            "NoThinning": (after, front, ("one",), ((), "one", ())), "NoText": (read, "x"),
            "NoAnswer": (book.enter, BOW_QUESTION, ("formula", ())), "NoQuestion": (book.answer, BOW_QUESTION),
            "NoFormula": (filled.formula, BOW_QUESTION), "BadStep": (end_of, front, STATEMENT, [(4, (), "", [])]),
        }
        hidden, tables = parts_of_world(bow, [2, 2], [2], 5)
        raised["NoValue"] = (World(bow, [2, 2], hidden, tables).share, (0,), (2,))
        raised["NoShare"] = (worth, ("over", ("one",), ("seen", ())), [2], {(0,): (0, 1), (1,): (0, 1)}, {})
        self.assertEqual(sorted(raised), sorted(REFUSALS))
        for name, (call, *handed) in raised.items():
            with self.subTest(name):
                self.assertIs(refusal(call, *handed), getattr(errors, name))


class OwnTest(unittest.TestCase):
    def test_what_is_handed_in_stays_as_it_was(self):
        for call, *handed in calls():
            with self.subTest(call.__name__):
                kept = snapshot(handed)
                call(*handed)
                self.assertEqual(snapshot(handed), kept)

    def test_what_was_told_stays_as_it_was(self):
        """Whatever is handed in is changed behind the call, and everything is asked once more."""
        several = calls()
        told = [call(*handed) for call, *handed in several]
        kept = [snapshot(thing) for thing in told]
        for call, *handed in several:
            spoil(handed)
        for call, *handed in calls():
            spoil(call(*handed))
        for thing, wish, row in zip(told, kept, several):
            with self.subTest(row[0].__name__):
                self.assertEqual(snapshot(thing), wish)

    def test_what_was_told_may_be_changed_by_the_asker(self):
        """The same question, of the same things, is answered as it was ahead of that."""
        for call, *handed in calls():
            with self.subTest(call.__name__):
                first = call(*handed)
                kept = snapshot(first)
                spoil(first)
                self.assertEqual(snapshot(call(*handed)), kept)

    def test_drawings_and_worlds_change_nothing_that_was_made_of_them(self):
        front = Drawing(3, [(0, 1), (1, 2)], [(0, 2)])
        bow = Drawing(2, [(0, 1)], [(0, 1)])
        hidden, tables = parts_of_world(bow, [2, 2], [2], 5)
        world = World(bow, [2, 2], hidden, tables)
        told = [front.part((0, 1)), front.cut_in((1,)), front.cut_out((0,)), world, set_world(world, (0,), (1,))]
        told += [Book(front), parted(bow, BOW_QUESTION, (1,), (0, 1)), hanging(front, (0,), (2,), (), ROAD, [])]
        kept = [snapshot(thing) for thing in told]
        for drawing in (front, bow):
            drawing.count, drawing.ties, drawing.bows = 1, (), ()
        for thing, wish in zip(told, kept):
            self.assertEqual(snapshot(thing), wish)


if __name__ == "__main__":
    unittest.main()
