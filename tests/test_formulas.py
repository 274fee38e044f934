"""Points 22 and 23, and of point 1 what it says of them: doingbook/formulas.py."""

import copy
import unittest
from fractions import Fraction
from random import Random

from doingbook.drawings import Drawing
from doingbook.errors import NoShare
from doingbook.formulas import open_names, worth
from tests.forms import ONE, as_fractions, flat_product, open_by_words, seen, strewn_formula, worth_by_words
from tests.support import all_sets, all_values, pair_of, refusal, some_drawings, summed_where, world_of


def strewn_table(chance, sizes, least):
    """A table that needn't come of a world: its entries needn't come to 1."""
    tops = range(1, 8) if least else (0, 0, 0, 1, 5)
    return {values: pair_of(Fraction(chance.choice(tops), chance.randint(1, 9))) for values in all_values(sizes)}


class OpenNamesTest(unittest.TestCase):
    def test_each_kind(self):
        self.assertEqual(open_names(ONE), ())
        self.assertEqual(open_names(seen()), ())
        self.assertEqual(open_names(seen(0, 3, 5)), (0, 3, 5))
        self.assertEqual(open_names(("times", seen(2, 4), seen(0, 4))), (0, 2, 4))
        self.assertEqual(open_names(("over", seen(5), seen(1))), (1, 5))
        self.assertEqual(open_names(("over", ONE, seen(1))), (1,))
        self.assertEqual(open_names(("times", seen(1), ONE)), (1,))
        self.assertEqual(open_names(("sum", (1, 4), seen(0, 1, 4, 5))), (0, 5))
        self.assertEqual(open_names(("sum", (1, 2), seen(0, 1))), (0,))
        self.assertEqual(open_names(("sum", (2,), seen(0, 1))), (0, 1))
        self.assertEqual(open_names(("sum", (2,), ONE)), ())

    def test_a_name_is_summed_in_one_part_and_open_in_another(self):
        formula = ("times", ("sum", (0,), seen(0, 1)), ("over", seen(0), seen(2)))
        self.assertEqual(open_names(formula), (0, 1, 2))
        self.assertEqual(open_names(("sum", (0,), formula)), (1, 2))
        same = seen(0, 1)
        self.assertEqual(open_names(("times", same, ("sum", (0,), same))), (0, 1))
        self.assertEqual(open_names(("sum", (1,), ("times", same, ("sum", (0,), same)))), (0,))

    def test_strewn_formulas(self):
        chance = Random(1)
        for turn in range(600):
            formula = strewn_formula(chance, 6, 1 + turn % 7)
            told = open_names(formula)
            self.assertIs(type(told), tuple)
            self.assertEqual(told, tuple(sorted(open_by_words(formula))))

    def test_many_deep(self):
        formula = seen(0, 1, 2, 3, 4, 5)
        for turn in range(59):
            formula = ("times", formula, ONE) if turn % 3 else ("sum", (turn % 5,), formula)
        self.assertEqual(open_names(formula), (5,))
        formula = seen(3)
        for turn in range(59):
            formula = ("over", ONE, formula)
        self.assertEqual(open_names(formula), (3,))

    def test_many_parts(self):
        parts = [seen(turn % 5) for turn in range(1000)] + [("sum", (5,), seen(4, 5))] * 300
        formula = flat_product(parts)
        self.assertEqual(open_names(formula), (0, 1, 2, 3, 4))
        self.assertEqual(open_names(("sum", (0, 2), formula)), (1, 3, 4))


class WorthTest(unittest.TestCase):
    def setUp(self):
        self.sizes = (2, 3, 2)
        self.world = world_of(Drawing(3, [(0, 1), (1, 2)], [(0, 2)]), 5)
        self.table = strewn_table(Random(4), self.sizes, 1)

    def check(self, formula, sizes, table, values):
        """Whether it was let by."""
        handed = copy.deepcopy((sizes, table, values))
        try:
            wanted = pair_of(worth_by_words(formula, sizes, as_fractions(table), values))
        except ZeroDivisionError:
            self.assertIs(refusal(worth, formula, sizes, table, values), NoShare)
            return False
        told = worth(formula, sizes, table, values)
        self.assertIs(type(told), tuple)
        self.assertEqual(told, wanted)
        self.assertEqual((sizes, table, values), handed)
        self.assertEqual((list(table), list(values)), (list(handed[1]), list(handed[2])))
        return True

    def test_each_kind_written_out(self):
        table = {(0, 0): (1, 2), (0, 1): (1, 3), (1, 0): (0, 1), (1, 1): (1, 6)}
        values = {0: 0, 1: 1}
        for formula, wanted in [
            (ONE, (1, 1)), (seen(), (1, 1)), (seen(0), (5, 6)), (seen(1), (1, 2)), (seen(0, 1), (1, 3)),
            (("times", seen(0), seen(1)), (5, 12)), (("over", seen(0, 1), seen(0)), (2, 5)),
            (("over", seen(0), seen(0, 1)), (5, 2)), (("sum", (0,), seen(0, 1)), (1, 2)),
            (("sum", (0, 1), seen(0, 1)), (1, 1)), (("sum", (1,), ONE), (2, 1)), (("sum", (0, 1), ONE), (4, 1)),
            (("sum", (1,), seen(0)), (5, 3)), (("sum", (0,), ("times", seen(0), seen(0))), (13, 18)),
            (("sum", (0,), ("times", seen(0), ("sum", (0,), seen(0, 1)))), (1, 2)),
        ]:
            with self.subTest(formula=formula):
                self.assertEqual(worth(formula, (2, 2), table, values), wanted)
                self.assertEqual(worth(formula, [2, 2], table, values), wanted)

    def test_the_empty_seen_of_a_table_that_is_no_worlds(self):
        table = {(0,): (5, 2), (1,): (0, 1), (2,): (3, 1)}
        self.assertEqual(worth(seen(), (3,), table, {}), (11, 2))
        self.assertEqual(worth(("over", seen(0), seen()), [3], table, {0: 2}), (6, 11))
        nothing = {(0,): (0, 1), (1,): (0, 1)}
        self.assertEqual(worth(seen(), (2,), nothing, {}), (0, 1))
        self.assertIs(refusal(worth, ("over", ONE, seen()), (2,), nothing, {}), NoShare)

    def test_strewn_formulas(self):
        chance = Random(2)
        let_by = {True: 0, False: 0}
        for turn in range(2000):
            count = 1 + turn % 4
            sizes = [chance.randint(2, 4 if count < 3 else 2) for name in range(count)]
            table = strewn_table(chance, sizes, turn % 5 % 2)
            if turn % 3 == 0:
                world = world_of(some_drawings(count, 3, turn)[turn % 3], turn, 3, 2, turn % 2)
                sizes, table = list(world.sizes), world.seen()
            formula = strewn_formula(chance, count, 1 + turn % 5)
            values = {name: chance.randrange(sizes[name]) for name in range(count)}
            with self.subTest(formula=formula):
                let_by[self.check(formula, tuple(sizes) if turn % 2 else sizes, table, values)] += 1
                only = {name: value for name, value in values.items() if name in open_by_words(formula)}
                self.check(formula, sizes, table, only)
        self.assertGreater(min(let_by.values()), 20)

    def test_all_values_of_a_formula_with_a_table_that_comes_of_a_world(self):
        formula = ("sum", (0,), ("times", ("over", seen(0, 1, 2), seen(0, 1)), seen(0)))
        for values in all_values((2, 2, 2)):
            self.assertTrue(self.check(formula, self.world.sizes, self.world.seen(), dict(enumerate(values))))

    def test_sums_over_names_that_have_values_handed_in(self):
        for names in all_sets(3)[1:]:
            for inner in (seen(0, 1, 2), ("over", seen(0, 1), seen(1)), seen(2), ONE):
                told = set()
                for values in all_values(self.sizes):
                    self.check(("sum", names, inner), self.sizes, self.table, dict(enumerate(values)))
                    if set(open_by_words(inner)) <= set(names):
                        told.add(worth(("sum", names, inner), self.sizes, self.table, dict(enumerate(values))))
                        self.check(("sum", names, inner), self.sizes, self.table, {})
                self.assertLessEqual(len(told), 1)

    def test_values_of_other_names_do_not_matter(self):
        formula = ("over", seen(0, 1), seen(1))
        for more in ({}, {2: 0}, {2: 1}, {2: 77}):
            told = worth(formula, self.sizes, self.table, {0: 1, 1: 2, **more})
            self.assertEqual(told, worth(formula, self.sizes, self.table, {1: 2, 0: 1}))

    def test_quotients_by_0(self):
        table = {(0, 0): (0, 1), (0, 1): (0, 1), (1, 0): (1, 2), (1, 1): (1, 2)}
        by_0 = ("over", ONE, seen(0))
        nothing = seen(0)
        for formula in (
            by_0, ("over", nothing, nothing), ("times", ONE, by_0), ("times", nothing, by_0), ("times", by_0, nothing),
            ("over", nothing, by_0), ("over", by_0, ONE), ("sum", (1,), by_0), ("sum", (0,), by_0),
            ("sum", (0, 1), by_0),
            ("over", nothing, ("times", ONE, nothing)), ("sum", (1,), ("times", nothing, ("sum", (0,), by_0))),
            ("times", nothing, ("times", nothing, by_0)), ("over", ONE, ("sum", (1,), nothing)),
        ):
            with self.subTest(formula=formula):
                self.assertIs(refusal(worth, formula, (2, 2), table, {0: 0, 1: 0}), NoShare)

    def test_a_quotient_that_would_be_by_0_at_other_values_alone(self):
        table = {(0, 0): (0, 1), (0, 1): (0, 1), (1, 0): (1, 2), (1, 1): (1, 2)}
        by_0 = ("over", ONE, seen(0))
        self.assertEqual(worth(by_0, (2, 2), table, {0: 1, 1: 0}), (1, 1))
        self.assertEqual(worth(("sum", (1,), by_0), (2, 2), table, {0: 1}), (2, 1))
        self.assertEqual(worth(("times", by_0, ("sum", (0,), seen(0))), (2, 2), table, {0: 1}), (1, 1))
        self.assertIs(refusal(worth, ("sum", (0,), by_0), (2, 2), table, {0: 1, 1: 0}), NoShare)
        self.assertIs(refusal(worth, ("times", by_0, ("sum", (0,), by_0)), (2, 2), table, {0: 1}), NoShare)

    def test_sums_many_deep(self):
        formula = ONE
        for turn in range(59):
            formula = ("sum", (turn % 3,), formula)
        self.assertEqual(worth(formula, (2, 3, 2), self.table, {}), (2 ** 20 * 3 ** 20 * 2 ** 19, 1))
        formula = seen(0, 1, 2)
        for turn in range(58):
            formula = ("sum", (0, 1, 2), formula)
        self.assertEqual(worth(formula, (2, 2, 2), self.world.seen(), {}), (8 ** 57, 1))
        formula = seen(0)
        for turn in range(59):
            formula = ("over", seen(1), formula)
        self.check(formula, self.sizes, self.table, {0: 1, 1: 1})

    def test_many_parts(self):
        chance = Random(6)
        sets = [(chance.choice(all_sets(3)), chance.choice(all_sets(3))) for turn in range(990)]
        formula = flat_product([("over", ("seen", a), ("seen", b)) for a, b in sets])
        self.assertTrue(self.check(formula, self.sizes, self.table, {0: 1, 1: 2, 2: 0}))
        self.assertTrue(self.check(("sum", (0,), formula), self.sizes, self.table, {1: 2, 2: 0}))

    def test_a_table_of_4096_entries(self):
        sizes = [4] * 6
        table = {values: (1 + sum(values), 4096) for values in all_values(sizes)}
        wanted = summed_where(as_fractions(table), {0: 3, 5: 1})
        self.assertEqual(worth(seen(0, 5), sizes, table, {0: 3, 5: 1}), pair_of(wanted))
        formula = ("sum", (0, 1, 2, 3, 4, 5), ("over", seen(0, 1, 2, 3, 4, 5), seen(0, 1)))
        self.assertEqual(worth(formula, sizes, table, {}), (16, 1))

    def test_long_fractions(self):
        big = 7 ** 300
        table = {(0,): (big, big + 1), (1,): (1, big)}
        self.assertTrue(self.check(("over", seen(0), ("times", seen(), seen(0))), (2,), table, {0: 0}))


if __name__ == "__main__":
    unittest.main()
