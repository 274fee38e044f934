"""Points 32 to 35, and of points 1, 5 and 13 what they say of them: doingbook/rules.py."""

import copy
import unittest
from random import Random

from doingbook.barred import barred, is_road, is_shut
from doingbook.drawings import Drawing
from doingbook.errors import BadStep, NoName, NoRule, NoSets
from doingbook.rules import end_of, joins
from doingbook.setting import set_share_where
from tests.support import (
    NO_SETS, above, all_sets, all_values, cut_by_words, drawings_to_ask, is_barred_by_words, less, refusal,
    small_drawings, some_drawings, statements, strewn_sets, union, world_of,
)

NUMBERS = (1, 2, 3)
# The first name works on the last by way of the second; something hidden lies under the first and the last.
FRONT = Drawing(3, [(0, 1), (1, 2)], [(0, 2)])


def drawing_by_words(drawing, number, statement, names):
    """The drawing that point 33 tells for a rule."""
    asked, setnames, seen = statement
    if number == 1:
        return cut_by_words(drawing.shape(), setnames, ())
    if number == 2:
        return cut_by_words(drawing.shape(), setnames, names)
    ancestors = above(cut_by_words(drawing.shape(), setnames, ()).ties, seen)
    return cut_by_words(drawing.shape(), union(setnames, less(names, ancestors)), ())


def joins_by_words(drawing, number, statement, names):
    asked, setnames, seen = statement
    cut = drawing_by_words(drawing, number, statement, names)
    return is_barred_by_words(cut, asked, names, union(setnames, seen))


def statements_and_names(count):
    """Every statement, and names beside it."""
    return [(sets[:3], sets[3]) for sets in strewn_sets(count, 4) if sets[0] and sets[3]]


def moved_by_words(statement, number, names, way):
    """Where a step leads to, None where the names don't stand where the way wants them."""
    asked, setnames, seen = statement
    if number == 2:
        start, goal = (seen, setnames) if way == "more" else (setnames, seen)
        if not set(names) <= set(start):
            return None
        start, goal = less(start, names), union(goal, names)
        return (asked, goal, start) if way == "more" else (asked, start, goal)
    goal = seen if number == 1 else setnames
    if way == "more":
        if set(names) & set(union(asked, setnames, seen)):
            return None
        goal = union(goal, names)
    else:
        if not set(names) <= set(goal):
            return None
        goal = less(goal, names)
    return (asked, setnames, goal) if number == 1 else (asked, goal, seen)


def base_by_words(statement, names):
    return tuple(less(part, names) for part in statement)


def good_steps(drawing, statement):
    """Every good step from a statement, with the statement it leads to."""
    told = []
    for number in NUMBERS:
        for way in ("more", "less"):
            for names in all_sets(drawing.count)[1:]:
                goal = moved_by_words(statement, number, names, way)
                base = base_by_words(statement, names)
                if goal and joins_by_words(drawing, number, base, names):
                    cut = drawing_by_words(drawing, number, base, names)
                    standings = barred(cut, base[0], names, union(base[1], base[2]))[1]
                    told.append(((number, names, way, standings), goal))
    return told


def strewn_chain(chance, drawing, statement, length):
    """A chain of so many good steps, or of fewer where none is to be had, and the statements that it leads to."""
    chain, stands = [], [statement]
    for turn in range(length):
        steps = good_steps(drawing, stands[-1])
        if steps:
            step, goal = chance.choice(steps)
            chain.append(step)
            stands.append(goal)
    return chain, stands


def chains(count, times, length, seed):
    chance = Random(seed)
    for turn, drawing in enumerate(some_drawings(count, times, seed)):
        several = statements(count)
        for statement in several[turn % 5::len(several) // 4 + 1]:
            chain, stands = strewn_chain(chance, drawing, statement, 1 + turn % length)
            yield drawing, chain, stands


class JoinsTest(unittest.TestCase):
    def check(self, drawing, number, statement, names):
        told = joins(drawing, number, statement, names)
        self.assertIs(type(told), tuple)
        self.assertIs(told[0], joins_by_words(drawing, number, statement, names))
        asked, setnames, seen = statement
        cut = drawing_by_words(drawing, number, statement, names)
        if told[0]:
            self.assertIs(type(told[1]), list)
            self.assertIs(is_shut(cut, asked, names, union(setnames, seen), told[1]), True)
        else:
            self.assertIs(is_road(cut, asked, names, union(setnames, seen), *told[1]), True)
        return told[0]

    def check_several(self, drawings, most):
        """How often each rule joined and didn't, and for rule 3 how many of the names were ancestors of seen ones."""
        told = {(number, answer): 0 for number in NUMBERS for answer in (True, False)}
        above_seen = {"none": 0, "some": 0, "all": 0}
        for turn, drawing in enumerate(drawings):
            several = statements_and_names(drawing.count)
            for statement, names in several[turn % 7::len(several) // most + 1] if len(several) > most else several:
                for number in NUMBERS:
                    with self.subTest(shape=drawing.shape(), number=number, statement=statement, names=names):
                        told[(number, self.check(drawing, number, statement, names))] += 1
                ancestors = above(cut_by_words(drawing.shape(), statement[1], ()).ties, statement[2])
                left = less(names, ancestors)
                above_seen["none" if left == names else "some" if left else "all"] += 1
        return told, above_seen

    def test_every_statement_of_drawings_with_few_names(self):
        told, above_seen = self.check_several(small_drawings(), 400)
        self.assertGreater(min(told.values()), 100)
        self.assertGreater(min(above_seen["none"], above_seen["all"]), 10)

    def test_some_statements_of_drawings_with_many_names(self):
        for count, times in ((4, 30), (5, 20), (6, 12)):
            told, above_seen = self.check_several(some_drawings(count, times, 800 + count), 30)
            with self.subTest(count=count, told=told, above_seen=above_seen):
                self.assertGreater(min(told.values()), 20)
                self.assertGreater(min(above_seen.values()), 5)

    def test_written_out(self):
        self.assertIs(joins(FRONT, 1, ((2,), (0,), ()), (1,))[0], False)
        self.assertIs(joins(FRONT, 2, ((1,), (), ()), (0,))[0], True)
        self.assertIs(joins(FRONT, 2, ((2,), (), ()), (0,))[0], False)
        self.assertIs(joins(FRONT, 2, ((2,), (0,), ()), (1,))[0], True)
        self.assertIs(joins(FRONT, 2, ((2,), (), ()), (1,))[0], False)
        self.assertIs(joins(FRONT, 2, ((2,), (), (0,)), (1,))[0], True)
        self.assertIs(joins(FRONT, 3, ((0,), (), ()), (1, 2))[0], True)
        self.assertIs(joins(FRONT, 3, ((2,), (), ()), (0,))[0], False)
        self.assertIs(joins(FRONT, 3, ((2,), (1,), ()), (0,))[0], True)
        self.assertEqual(joins(FRONT, 1, ((2,), (0,), ()), (1,)), (False, ([(2, "up", 1)], [])))

    def test_rule_3_keeps_the_ties_to_names_above_seen_ones(self):
        drawing = Drawing(3, [(0, 1), (1, 2)], [])
        self.assertIs(joins(drawing, 3, ((0,), (), ()), (1,))[0], True)
        self.assertIs(joins(drawing, 3, ((0,), (), (2,)), (1,))[0], False)
        # Of two names the one that is above the seen one keeps its tie.
        drawing = Drawing(4, [(0, 1), (1, 2), (0, 3)], [])
        self.assertIs(joins(drawing, 3, ((0,), (), (2,)), (3,))[0], True)
        self.assertIs(joins(drawing, 3, ((0,), (), (2,)), (1, 3))[0], False)
        # A set name between the two: in the drawing cut in it is an ancestor no longer.
        drawing = Drawing(4, [(0, 1), (1, 2), (2, 3)], [])
        self.assertIs(joins(drawing, 3, ((0,), (2,), (3,)), (1,))[0], True)

    def test_told_lists_are_the_askers_own(self):
        for number, statement, names in [(2, ((1,), (), ()), (0,)), (1, ((2,), (0,), ()), (1,))]:
            first = joins(FRONT, number, statement, names)
            kept = copy.deepcopy(first)
            (first[1] if first[0] else first[1][0]).clear()
            self.assertEqual(joins(FRONT, number, statement, names), kept)


class RefusedTest(unittest.TestCase):
    def test_no_name_is_first(self):
        drawing = Drawing(6, [(0, 1)], [(1, 2)])
        for wrong in NO_SETS:
            for number in (1, 2, 3, 0, 4):
                for statement, names in [
                    ((wrong, (), ()), (1,)), (((0,), wrong, ()), (1,)), (((0,), (), wrong), (1,)),
                    (((0,), (), ()), wrong), (((), (0,), (0,)), wrong), ((wrong, wrong, wrong), ()),
                ]:
                    self.assertIs(refusal(joins, drawing, number, statement, names), NoName)

    def test_no_rule_is_ahead_of_no_sets(self):
        for number in (0, 4, -1, 23, 10 ** 70):
            for statement, names in [
                (((0,), (), ()), (1,)), (((), (), ()), (1,)), (((0,), (0,), ()), (1,)), (((0,), (), ()), ()),
                (((0,), (), ()), (0,)), (((0,), (1,), (2,)), (1,)),
            ]:
                self.assertIs(refusal(joins, FRONT, number, statement, names), NoRule)

    def test_no_sets(self):
        for number in NUMBERS:
            for statement, names in [
                (((), (), ()), (1,)), (((), (0,), (2,)), (1,)), (((0,), (0,), ()), (1,)), (((0,), (), (0,)), (1,)),
                (((0,), (2,), (2,)), (1,)), (((0,), (), ()), ()), (((0,), (1,), (2,)), ()), (((0,), (), ()), (0,)),
                (((0,), (1,), ()), (1,)), (((0,), (), (2,)), (1, 2)),
            ]:
                with self.subTest(number=number, statement=statement, names=names):
                    self.assertIs(refusal(joins, FRONT, number, statement, names), NoSets)

    def test_no_statement_is_ahead_of_a_step(self):
        bad = [(9, (-1,), "side", [(9, True)])]
        drawing = Drawing(6, FRONT.ties, FRONT.bows)
        for chain in ([], bad):
            for wrong in NO_SETS:
                for statement in [(wrong, (), ()), ((0,), wrong, ()), ((0,), (), wrong), ((), wrong, (1,))]:
                    self.assertIs(refusal(end_of, drawing, statement, chain), NoName)
            for statement in [((), (), ()), ((), (0,), ()), ((0,), (0,), ()), ((0,), (1,), (1,)), ((0,), (), (0, 1))]:
                self.assertIs(refusal(end_of, drawing, statement, chain), NoSets)


class EndOfTest(unittest.TestCase):
    def place_of(self, drawing, statement, chain):
        """At which step the chain is refused, None where it isn't."""
        try:
            end_of(drawing, statement, chain)
        except BadStep as error:
            self.assertIs(type(error), BadStep)
            self.assertIs(type(error.at), int)
            return error.at
        return None

    def test_a_chain_of_no_step(self):
        for drawing in drawings_to_ask()[::5]:
            for statement in statements(drawing.count)[::40]:
                self.assertEqual(end_of(drawing, statement, []), statement)

    def test_chains_of_one_step_and_of_several(self):
        kinds, lengths = {}, {}
        for count, times in ((2, 20), (3, 60), (4, 30), (5, 8)):
            for drawing, chain, stands in chains(count, times, 5, 820 + count):
                handed = copy.deepcopy(chain)
                with self.subTest(shape=drawing.shape(), statement=stands[0], chain=chain):
                    for length in range(len(chain) + 1):
                        self.assertEqual(end_of(drawing, stands[0], chain[:length]), stands[length])
                    self.assertEqual(chain, handed)
                lengths[len(chain)] = lengths.get(len(chain), 0) + 1
                for number, names, way, standings in chain:
                    kinds[(number, way)] = kinds.get((number, way), 0) + 1
        self.assertEqual(set(kinds), {(number, way) for number in NUMBERS for way in ("more", "less")})
        self.assertGreater(min(kinds.values()), 10)
        self.assertGreater(min(lengths[length] for length in range(1, 5)), 10)

    def bent_steps(self, drawing, step):
        """Steps with one thing of a good step bent."""
        number, names, way, standings = step
        for other in (0, 1, 2, 3, 4, -1, 10 ** 70):
            yield (other, names, way, standings)
        for other in ("more", "less", "", "More", "back", "les"):
            yield (number, names, other, standings)
        for other in all_sets(drawing.count) + [(-1,), (9,), (1, 0), names + names, (0, 0), names + (10 ** 70,)]:
            yield (number, other, way, standings)
        for place in range(len(standings)):
            yield (number, names, way, standings[:place] + standings[place + 1:])
            name, pointed = standings[place]
            yield (number, names, way, standings[:place] + [(name, not pointed)] + standings[place + 1:])
        for name in names:
            yield (number, names, way, standings + [(name, True)])
        yield (number, names, way, standings + [(9, True)])
        yield (number, names, way, standings + [(-1, False)])
        yield (number, names, way, [])
        yield (number, names, way, standings + standings[:1])
        yield (number, names, way, standings[::-1])

    def is_good_by_words(self, drawing, statement, step):
        number, names, way, standings = step
        if number not in NUMBERS or way not in ("more", "less") or names not in all_sets(drawing.count)[1:]:
            return False
        if moved_by_words(statement, number, names, way) is None:
            return False
        base = base_by_words(statement, names)
        cut = drawing_by_words(drawing, number, base, names)
        return is_shut(cut, base[0], names, union(base[1], base[2]), standings)

    def test_bent_steps_at_every_place(self):
        answers = {True: 0, False: 0}
        for count, times in ((3, 16), (4, 10), (5, 4)):
            for drawing, chain, stands in chains(count, times, 3, 840 + count):
                for place, step in enumerate(chain):
                    for bent in self.bent_steps(drawing, step):
                        wish = self.is_good_by_words(drawing, stands[place], bent)
                        answers[wish] += 1
                        told = self.place_of(drawing, stands[0], chain[:place] + [bent])
                        with self.subTest(shape=drawing.shape(), statement=stands[place], step=bent):
                            self.assertEqual(told, None if wish else place)
        self.assertGreater(min(answers.values()), 300)

    def test_the_first_step_that_is_not_good_is_told(self):
        statement = ((1,), (), (0,))
        more = (2, (0,), "more", joins(FRONT, 2, ((1,), (), ()), (0,))[1])
        back = (2, (0,), "less", more[3])
        bad = (5, (0,), "more", [])
        self.assertEqual(end_of(FRONT, statement, [more]), ((1,), (0,), ()))
        self.assertEqual(end_of(FRONT, statement, [more, back]), statement)
        self.assertEqual(self.place_of(FRONT, statement, [bad, bad]), 0)
        self.assertEqual(self.place_of(FRONT, statement, [more, bad, bad]), 1)
        self.assertEqual(self.place_of(FRONT, statement, [more, back, more, bad]), 3)
        self.assertEqual(self.place_of(FRONT, statement, [more, more]), 1)
        self.assertEqual(self.place_of(FRONT, statement, [back]), 0)

    def test_each_reason_alone(self):
        statement = ((1,), (), (0,))
        good = (2, (0,), "more", joins(FRONT, 2, ((1,), (), ()), (0,))[1])
        self.assertIsNone(self.place_of(FRONT, statement, [good]))
        for bad in [
            (0, *good[1:]), (4, *good[1:]), (2, (0,), "less", good[3]), (2, (0,), "up", good[3]),
            (2, (3,), "more", good[3]), (2, (0, 0), "more", good[3]), (2, (), "more", good[3]),
            (2, (2,), "more", good[3]), (2, (1,), "more", good[3]), (2, (0, 2), "more", good[3]),
            (2, (0,), "more", good[3][1:]), (2, (0,), "more", good[3] + [(0, True)]), (2, (0,), "more", []),
        ]:
            with self.subTest(bad=bad):
                self.assertEqual(self.place_of(FRONT, statement, [bad]), 0)

    def test_what_another_wrote(self):
        """Standings that are more than need be, twice and in another order bar, too."""
        drawing = Drawing(4, [(0, 1)], [])
        statement = ((0,), (), ())
        plain = [(0, False), (1, True)]
        for standings in (plain, plain[::-1], plain * 2, plain + [(3, True)], plain + [(3, False), (1, True)]):
            self.assertEqual(end_of(drawing, statement, [(1, (2,), "more", standings)]), ((0,), (), (2,)))

    def test_what_is_handed_in_stays(self):
        statement = ((1,), (), (0,))
        chain = [(2, (0,), "more", joins(FRONT, 2, ((1,), (), ()), (0,))[1])]
        told = end_of(FRONT, statement, chain)
        chain[0][3].clear()
        chain.clear()
        self.assertEqual(told, ((1,), (0,), ()))
        self.assertEqual(FRONT.shape(), (3, ((0, 1), (1, 2)), ((0, 2),)))


class SameShareTest(unittest.TestCase):
    """Point 35."""

    def shares(self, world, statement, values):
        asked, setnames, seen = statement
        on = [tuple(values[name] for name in names) for names in (setnames, asked, seen)]
        return set_share_where(world, setnames, on[0], asked, on[1], seen, on[2])

    def test_in_full_worlds_for_all_values(self):
        kinds = {}
        for count, times in ((2, 12), (3, 40), (4, 24), (5, 6)):
            worlds = {}
            for place, (drawing, chain, stands) in enumerate(chains(count, times, 4, 860 + count)):
                if drawing.shape() not in worlds:
                    worlds[drawing.shape()] = world_of(drawing, place, 3 if count < 4 else 2, 2)
                world = worlds[drawing.shape()]
                self.assertIs(world.full(), True)
                end = end_of(drawing, stands[0], chain)
                for number, names, way, standings in chain:
                    kinds[(number, way)] = kinds.get((number, way), 0) + 1
                for values in all_values(world.sizes):
                    with self.subTest(shape=drawing.shape(), statement=stands[0], chain=chain, values=values):
                        self.assertEqual(self.shares(world, stands[0], values), self.shares(world, end, values))
        self.assertEqual(len(kinds), 6)
        self.assertGreater(min(kinds.values()), 5)

    def test_shares_that_no_rule_joins_differ(self):
        world = world_of(FRONT, 3)
        for values in all_values(world.sizes):
            one = self.shares(world, ((2,), (0,), ()), values)
            self.assertNotEqual(one, self.shares(world, ((2,), (), (0,)), values))


if __name__ == "__main__":
    unittest.main()
