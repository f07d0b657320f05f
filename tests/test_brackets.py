"""Stage 12, letters of degree 1 and tables of brackets: [12.1] to [12.7]."""

import itertools
import random
import unittest
from fractions import Fraction

from stepletters.classes.classes import class_basis, class_paper, class_row, closed_count
from stepletters.classes.rings import cup_length
from stepletters.errors import InvalidTower
from stepletters.towers import brackets
from stepletters.towers.brackets import (bracket_of, brackets_fault, brackets_of, falling_row, is_brackets, is_like_ring,
                                         reach, tower_of_brackets)
from stepletters.towers.lengths import length_row, step_length
from stepletters.towers.towers import Tower, quadratic_tower, tower_fault
from stepletters.words.sums import Sum
from support import HUGE, LONGER, SIXTY, Case, any_values, fraction, ratio, slow_rank

THREE, FOUR = ({}, {}, {(0, 1): 1}), ({}, {}, {(0, 1): 1}, {(0, 2): 1})
BENT = ({}, {}, {}, {(1, 2): 1}, {(0, 3): 2})
FREE = ({}, {}, {(0, 1): 1}, {(0, 2): 1}, {(1, 2): 1})
PAIRS = ({}, {}, {}, {}, {(0, 1): (1, 2), (2, 3): -3})
DEEP = ({}, {}, {(0, 1): (2, 3)}, {(0, 2): 1}, {(0, 3): -1}, {(0, 4): 5})
MIXED = ({}, {}, {}, {(0, 1): 1, (0, 2): (1, 7)}, {(0, 2): -2, (1, 2): 4}, {(0, 4): 0 + 1, (2, 3): 2})
LONG = ({}, {}, {(0, 1): (SIXTY, 10 ** 59)}, {(0, 2): (1, SIXTY)})
WIDE = ({},) * 4 + ({(0, 1): 1}, {(0, 2): 1, (1, 3): 1}, {(2, 3): 1}, {(0, 3): (1, 2), (1, 2): (-1, 2)})
RIGHT = [(), ({},), ({},) * 3, ({},) * 8, THREE, FOUR, FREE, PAIRS, DEEP, LONG, WIDE]
NOT_TABLES = [
    ({},) * 9, [{}], {}, None, ({}, None), ({}, ()), ({}, {}, {(1, 0): 1}), ({}, {}, {(0, 0): 1}), ({}, {}, {(1, 1): 1}),
    ({}, {(0, 1): 1}), ({(0, 1): 1},), ({}, {}, {(0, 2): 1}), ({}, {}, {(-1, 1): 1}), ({}, {}, {(False, True): 1}),
    ({}, {}, {(0, True): 1}), ({}, {}, {(0,): 1}), ({}, {}, {(0, 1, 1): 1}), ({}, {}, {0: 1}), ({}, {}, {"01": 1}),
    ({}, {}, {(0, 1): 0}), ({}, {}, {(0, 1): (0, 1)}), ({}, {}, {(0, 1): (2, 4)}), ({}, {}, {(0, 1): (1, -1)}),
    ({}, {}, {(0, 1): True}), ({}, {}, {(0, 1): None}), ({}, {}, {(0, 1): LONGER}), ({}, {}, {(0, 1): (1, LONGER)}),
    ({}, {}, {(0, 1): {}}), ({}, {}, {(0, 1): "1"}), ({}, {}, {(LONGER, HUGE): 1}), ({}, {}, {None: 1}), ({}, {}, [((0, 1), 1)]),
]


def slow_bracket(table, one, other):
    """The bracket of two rows of fractions."""
    found = [Fraction(0)] * len(table)
    for unit, row in enumerate(table):
        for (i, j), number in row.items():
            found[unit] += fraction(number) * (one[i] * other[j] - one[j] * other[i])
    return found


def slow_fault(table):
    """The first three units for which Jacobi's rule does not hold."""
    size = len(table)
    units = [[Fraction(at == unit) for at in range(size)] for unit in range(size)]
    for a, b, c in itertools.combinations(range(size), 3):
        parts = [slow_bracket(table, units[x], slow_bracket(table, units[y], units[z]))
                 for x, y, z in ((a, b, c), (b, c, a), (c, a, b))]
        if any(sum(column) != 0 for column in zip(*parts)):
            return (a, b, c)
    return None


def slow_falling(table):
    """The dimensions of the falling spaces by ranks."""
    size = len(table)
    units = [[Fraction(at == unit) for at in range(size)] for unit in range(size)]
    space, found = units, []
    while slow_rank(space):
        found.append(slow_rank(space))
        space = [slow_bracket(table, one, other) for one in units for other in space]
    return tuple(found)


def steps_of(table):
    """The steps that a table tells, right or not."""
    size = len(table)
    return tuple({tuple(int(unit in pair) for unit in range(size)): number for pair, number in row.items()} for row in table)


def some_tables(many, seed):
    """Tables with few small numbers, right ones and others."""
    some = random.Random(seed)
    for _ in range(many):
        size = some.randint(3, 6)
        rows = []
        for unit in range(size):
            pairs = list(itertools.combinations(range(unit), 2))
            chosen = some.sample(pairs, min(len(pairs), some.randint(0, 2)))
            rows.append({pair: some.choice([1, -1, 2, (1, 2), (-3, 5)]) for pair in chosen})
        yield tuple(rows)


class TablesTest(Case):
    def test_constant(self):
        self.same(brackets.MOST_UNITS, 8)

    def test_right_tables(self):
        # [12.1] and [12.2]
        for table in RIGHT:
            self.assertIs(is_brackets(table), True)
            self.same(brackets_fault(table), None)
        for table, fault in ((BENT, (0, 1, 2)), (({},) + tuple({(i + 1, j + 1): n for (i, j), n in row.items()} for row in BENT),
                                                 (1, 2, 3))):
            self.assertIs(is_brackets(table), False)
            self.same(brackets_fault(table), fault)

    def test_values_that_are_no_tables(self):
        for table in NOT_TABLES:
            self.assertIs(is_brackets(table), False)
            for call, more in ((brackets_fault, ()), (bracket_of, (None, None)), (tower_of_brackets, ()), (falling_row, ())):
                self.fails("InvalidTable", None, call, table, *more)
        for value in any_values():
            self.assertIs(is_brackets(value), value in ((), ({},), ({}, {})) and isinstance(value, tuple))

    def test_first_faults(self):
        found = set()
        for table in list(some_tables(250, 1)) + [MIXED]:
            fault = slow_fault(table)
            self.same(brackets_fault(table), fault)
            self.assertIs(is_brackets(table), fault is None)
            found.add(fault)
        self.assertGreater(len(found), 4)

    def test_jacobi_is_what_makes_a_tower(self):
        # [12.3]
        for table in list(some_tables(120, 2)) + RIGHT:
            steps = steps_of(table)
            fault = tower_fault((1,) * len(table), steps)
            self.assertEqual(fault is None, brackets_fault(table) is None)
            if fault is None:
                self.assertEqual(tower_of_brackets(table), Tower((1,) * len(table), steps))
            else:
                self.assertEqual(fault[0], "twice")
                self.fails("Refused", ("jacobi",) + slow_fault(table), tower_of_brackets, table)
                self.fails("Refused", ("jacobi",) + slow_fault(table), falling_row, table)
                with self.assertRaises(InvalidTower):
                    Tower((1,) * len(table), steps)


class BracketsTest(Case):
    def test_brackets(self):
        some = random.Random(3)
        for table in RIGHT + [BENT, MIXED]:
            size = len(table)
            for _ in range(4):
                one = tuple(some.choice([0, 1, -2, (1, 3), (-5, 2), SIXTY]) for _ in range(size))
                other = tuple(some.choice([0, 1, 3, (2, 3), (1, SIXTY)]) for _ in range(size))
                wanted = slow_bracket(table, [fraction(number) for number in one], [fraction(number) for number in other])
                self.same(bracket_of(table, one, other), tuple(ratio(number) for number in wanted))
                self.same(bracket_of(table, other, one), tuple(ratio(-number) for number in wanted))
                self.same(bracket_of(table, one, one), ((0, 1),) * size)
        self.same(bracket_of((), (), ()), ())
        self.same(bracket_of(({}, {}, {(0, 1): SIXTY}), (SIXTY, 0, 0), (0, (-SIXTY, 1), 0)), ((0, 1), (0, 1), (-SIXTY ** 3, 1)))

    def test_errors_of_brackets(self):
        good = (0, 1, (1, 2))
        for value in any_values():
            if not (isinstance(value, tuple) and value == (1, 2, 3)):
                self.fails("InvalidOperation", None, bracket_of, THREE, value, None)
                self.fails("InvalidOperation", None, bracket_of, THREE, good, value)
            self.fails("InvalidTable", None, bracket_of, NOT_TABLES[0], value, good)
        for wrong in ((0, 1), (0, 1, 2, 3), (0, 1, True), (0, 1, (2, 4)), (0, 1, LONGER), (0, 1, (1, 0)), [0, 1, 2]):
            self.fails("InvalidOperation", None, bracket_of, THREE, wrong, good)
            self.fails("InvalidOperation", None, bracket_of, THREE, good, wrong)

    def test_jacobi_for_all_sums_of_units(self):
        # [12.2]
        some = random.Random(4)
        for table in RIGHT[4:]:
            size = len(table)
            for _ in range(5):
                a, b, c = [tuple(some.randint(-3, 3) for _ in range(size)) for _ in range(3)]
                parts = [slow_bracket(table, x, slow_bracket(table, y, z)) for x, y, z in ((a, b, c), (b, c, a), (c, a, b))]
                self.assertFalse(any(sum(column) for column in zip(*parts)))
                inner = bracket_of(table, b, c)
                if all(abs(top) < LONGER and bottom < LONGER for top, bottom in inner):
                    self.assertEqual([fraction(part) for part in bracket_of(table, a, inner)], parts[0])


class TowersTest(Case):
    def test_towers_and_tables(self):
        # [12.3]
        self.same(tower_of_brackets(FOUR).letters, (1, 1, 1, 1))
        self.same([step.terms for step in tower_of_brackets(MIXED[:5]).steps][3:],
                  [{(1, 0, 1, 0, 0): (1, 7), (1, 1, 0, 0, 0): (1, 1)}, {(0, 1, 1, 0, 0): (4, 1), (1, 0, 1, 0, 0): (-2, 1)}])
        for table in RIGHT:
            tower = tower_of_brackets(table)
            self.assertEqual(tower, quadratic_tower(tower))
            self.assertIn(step_length(tower), (0, 2))
            wanted = tuple({pair: ratio(fraction(row[pair])) for pair in sorted(row)} for row in table)
            self.same(brackets_of(tower), wanted)
            self.assertEqual(tower_of_brackets(brackets_of(tower)), tower)
        self.same(brackets_of(Tower((1,) * 4, ({}, {}, {}, {(0, 1, 1, 0): 3, (1, 0, 1, 0): (1, 2), (1, 1, 0, 0): -1}))),
                  ({}, {}, {}, {(0, 1): (-1, 1), (0, 2): (1, 2), (1, 2): (3, 1)}))
        self.same([brackets_of(Tower((), ())), tower_of_brackets(()).letters], [(), ()])
        self.same(brackets_of(Tower((1,) * 8, ({},) * 8)), ({},) * 8)

    def test_errors(self):
        for call in (brackets_of, is_like_ring, reach):
            for value in any_values():
                if not isinstance(value, Tower):
                    self.fails("InvalidTower", None, call, value)
            for letters in ((1,) * 9, (2,), (1, 1, 3), (3, 1), (1,) * 8 + (2,)):
                self.fails("InvalidOperation", None, call, Tower(letters, ({},) * len(letters)))

    def test_classes(self):
        # [12.4]
        for table in RIGHT:
            size = len(table)
            tower = tower_of_brackets(table)
            row = class_row(tower, size + 2)
            self.same(row[0], 1)
            if size:
                self.same(row[size:], (1, 0, 0))
                self.assertEqual(class_paper(tower, Sum(tower.letters, {(1,) * size: 1}))[0], "test")
                self.assertEqual(row[:size + 1], row[size::-1])
                self.assertEqual(sum((-1) ** at * number for at, number in enumerate(row)), 0)
                self.assertTrue(all(number >= 2 for number in row[1:size]))
                made = slow_rank([slow_bracket(table, a, b) for a in units(size) for b in units(size)])
                self.assertEqual((row[1], closed_count(tower, 1)), (size - made, size - made))

    def test_falling_rows(self):
        # [12.5]
        for table, wanted in ((FOUR, (4, 2, 1)), (({},) * 3, (3,)), ((), ()), (({},), (1,)), (FREE, (5, 3, 2)), (PAIRS, (5, 1)),
                              (DEEP, (6, 4, 3, 2, 1)), (LONG, (4, 2, 1)), (WIDE, (8, 4)), (({},) * 8, (8,))):
            self.same(falling_row(table), wanted)
        right = 0
        for table in some_tables(120, 5):
            if slow_fault(table) is None:
                right += 1
                row = falling_row(table)
                self.same(row, slow_falling(table))
                self.assertEqual(list(row), sorted(set(row), reverse=True))
                tower = tower_of_brackets(table)
                self.assertEqual(class_row(tower, 1)[1], row[0] - (row + (0,))[1])
        self.assertGreater(right, 40)


def units(size):
    return [[int(at == unit) for at in range(size)] for unit in range(size)]


def slow_reach(tower):
    """The greatest number of factors from a class basis of the degree 1 whose product is no step."""
    base = class_basis(tower, 1)
    found = 0
    for many in range(1, len(base) + 1):
        for factors in itertools.combinations(base, many):
            product = Sum.one(tower.letters)
            for factor in factors:
                product = product * factor
            if class_paper(tower, product)[0] == "test":
                found = many
    return found


class RingTest(Case):
    def test_reach(self):
        # [12.6]
        for table, wanted in ((THREE, 1), (FOUR, 1), (({},) * 3, 3), ((), 0), (({},), 1), (({},) * 8, 8), (FREE, 1), (DEEP, 1)):
            self.same(reach(tower_of_brackets(table)), wanted)
        self.same(reach(tower_of_brackets(PAIRS)), 2)
        self.same(reach(tower_of_brackets(THREE + ({},))), 2)
        tables = [table for table in some_tables(90, 6) if slow_fault(table) is None]
        tried = set()
        for table in tables + [WIDE, LONG, PAIRS]:
            tower = tower_of_brackets(table)
            self.same(reach(tower), slow_reach(tower))
            self.assertEqual(reach(tower) == len(table), not any(table))
            self.assertLessEqual(reach(tower), cup_length(tower, len(table)))
            tried.add(reach(tower))
        self.assertGreater(len(tried), 3)

    def test_like_its_ring(self):
        # [12.6]
        for table in RIGHT:
            tower = tower_of_brackets(table)
            self.assertIs(is_like_ring(tower), not any(table))
            # the rank of the products of classes of the degree 1 is the class number in each degree just then
            told = all(self.products_tell(tower, degree) for degree in range(1, len(table) + 1)) if len(table) < 6 else None
            self.assertIn(told, (None, is_like_ring(tower)))

    def products_tell(self, tower, degree):
        base = class_basis(tower, 1)
        top = class_row(tower, degree)[degree]
        made = [Sum.one(tower.letters)]
        for _ in range(degree):
            made = [one * other for one in base for other in made]
        steps = [tower.step(Sum(tower.letters, {word: 1})) for word in itertools.product((0, 1), repeat=tower.size)
                 if sum(word) == degree - 1]
        all_words = sorted({word for a_sum in made + steps for word in a_sum.terms})
        rows = [[fraction(a_sum.number_at(word)) for word in all_words] for a_sum in steps]
        more = [[fraction(a_sum.number_at(word)) for word in all_words] for a_sum in made]
        return slow_rank(rows + more) - slow_rank(rows) == top

    def test_lengths_agree(self):
        # a tower of letters of the degree 1 has words of one length at each degree
        tower = tower_of_brackets(FOUR)
        for degree in range(5):
            row = length_row(tower, degree)
            self.assertEqual(row[degree], class_row(tower, degree)[degree])
            self.assertEqual(sum(row), row[degree])

    def test_what_is_not_true(self):
        # [12.7]
        one, other = ({},) * 4 + ({(0, 1): 1}, {(2, 3): 1}), ({},) * 4 + ({(0, 1): 1}, {(0, 2): 1})
        self.assertEqual(falling_row(one), falling_row(other))
        self.assertNotEqual(class_row(tower_of_brackets(one), 6), class_row(tower_of_brackets(other), 6))
        self.same(brackets_fault(({}, {}, {}, {(1, 2): 1}, {(0, 3): 1})), (0, 1, 2))
        three = tower_of_brackets(THREE)
        self.assertEqual(class_paper(three, three.letter_sum(0) * three.letter_sum(1))[0], "step")


if __name__ == "__main__":
    unittest.main()
