"""Stage 1, tables: [1.1] to [1.5]."""

import copy
import math
import random
import unittest

from stepletters.base import tables
from stepletters.base.exact import is_quotient
from support import HUGE, LONGER, SIXTY, Case, any_values, fraction, ratio, reduced_rows, slow_rank

THREE = ((1, 1, 0), (0, 2, 2), (1, -1, -2))
NOT_TABLES = [(), ((),), ((), ()), ((1, 2), (3,)), ((1,), ()), ((1, True),), ((1, None),), ((1, (2, 1)),), (1, 2),
              [[1, 2]], ([1, 2],), [(1, 2)], ((LONGER,),), ((1, HUGE),), ((1,),) * 41, ((1,) * 41,), None, "ab",
              ("ab", "cd"), {(1,): 1}, ((1, 2), None), ((1,) * 41,) * 41]


def pair(one, other):
    """The pairing of two rows."""
    return sum(fraction(a) * fraction(b) for a, b in zip(one, other))


def whole_row(row):
    """The row of integers without a common divisor on the line of a row of fractions."""
    common = math.lcm(*[number.denominator for number in row])
    row = [int(number * common) for number in row]
    return tuple(number // math.gcd(*row) for number in row)


def slow_kernel(table):
    """The kernel, from the reduced echelon with the columns turned round."""
    width = len(table[0])
    lot = [row[::-1] for row in reduced_rows([row[::-1] for row in table])]
    leads = [max(at for at in range(width) if row[at]) for row in lot]
    found = []
    for free in range(width):
        if free not in leads:
            row = [fraction(0)] * width
            row[free] = fraction(1)
            for lead, part in zip(leads, lot):
                row[lead] = -part[free]
            found.append(whole_row(row))
    return tuple(found)


def some_tables():
    """Tables of many sizes and ranks."""
    dice = random.Random(2)
    for rows, columns in [(1, 1), (1, 5), (5, 1), (3, 3), (3, 6), (6, 3), (7, 7), (2, 9), (9, 2)]:
        for size in (1, 2, 9, SIXTY):
            table = [tuple(dice.randint(-size, size) for _ in range(columns)) for _ in range(rows)]
            yield tuple(table)
            # dependent rows and rows of zeros
            table[-1] = tuple(2 * a for a in table[0]) if size < SIXTY else table[0]
            table[rows // 2] = (0,) * columns
            yield tuple(table)


class TablesTest(Case):
    def test_constant(self):
        self.same(tables.MAX_SIDE, 40)

    def test_is_table(self):
        for value in (((0,),), ((1, 2), (3, 4)), ((1,),) * 40, ((1,) * 40,), ((7,) * 40,) * 40, ((SIXTY, -SIXTY),)):
            self.assertIs(tables.is_table(value), True)
        for value in NOT_TABLES:
            self.assertIs(tables.is_table(value), False, repr(value)[:60])
        for value in any_values():
            self.assertIn(tables.is_table(value), (True, False))

    def test_rank_and_kernel(self):
        for table in some_tables():
            self.same(tables.rank(table), slow_rank(table))
            self.same(tables.kernel(table), slow_kernel(table))
            self.assertEqual(tables.rank(table) + len(tables.kernel(table)), len(table[0]))
            self.assertEqual(tables.rank(table), tables.rank(tuple(zip(*table))))

    def test_kernels_are_echelons(self):
        for table in some_tables():
            leads = []
            for row in tables.kernel(table):
                self.assertEqual(math.gcd(*row), 1)
                leads.append(next(at for at, number in enumerate(row) if number))
                self.assertGreater(row[leads[-1]], 0)
                self.assertTrue(all(pair(row, other) == 0 for other in table))
            self.assertEqual(leads, sorted(set(leads)))
            for lead in leads:
                self.assertEqual(len([row for row in tables.kernel(table) if row[lead]]), 1)

    def test_edges(self):
        self.same(tables.rank(((0,),)), 0)
        self.same(tables.kernel(((0,),)), ((1,),))
        self.same(tables.kernel(((-5,),)), ())
        self.same(tables.rank(((0,) * 40,) * 40), 0)
        unit = tuple(tuple(int(a == b) for a in range(40)) for b in range(40))
        self.same(tables.kernel(((0,) * 40,) * 40), unit)
        self.same((tables.rank(unit), tables.kernel(unit)), (40, ()))
        self.same(tables.kernel(((1, 1, 0), (0, 0, 1))), ((1, -1, 0),))

    def test_great_tables(self):
        dice = random.Random(3)
        table = tuple(tuple(dice.randint(-99, 99) for _ in range(40)) for _ in range(38))
        table = table + (table[0], tuple(a + b for a, b in zip(table[1], table[2])))
        self.same(tables.rank(table), 38)
        found = tables.kernel(table)
        self.assertEqual(len(found), 2)
        self.assertTrue(all(pair(row, other) == 0 for row in found for other in table))

    def test_errors(self):
        for value in NOT_TABLES:
            for call in (tables.rank, tables.kernel):
                self.fails("InvalidTable", None, call, value)
            self.fails("InvalidTable", None, tables.span_paper, value, None)
            self.fails("InvalidTable", None, tables.is_span_paper, value, None, None)
        for value in any_values() + [(1, 2), (1, 2, 3, 4), (1, 2, True), (1, 2, LONGER), [1, 2, 3], (1, 2, (3, 1))]:
            if not (type(value) is tuple and len(value) == 3 and all(type(part) is int for part in value)
                    and max(map(abs, value)) <= SIXTY):
                self.fails("InvalidOperation", None, tables.span_paper, THREE, value)
                self.fails("InvalidOperation", None, tables.is_span_paper, THREE, value, None)

    def test_arguments_stay(self):
        table = ((1, 2, 3), (4, 5, 6))
        kept = copy.deepcopy(table)
        tables.kernel(table), tables.span_paper(table, (7, 8, 9))
        self.same(table, kept)


class SpanPapersTest(Case):
    def check_paper(self, table, numbers, paper):
        self.assertIs(type(paper), tuple)
        word, told = paper
        self.assertIs(tables.is_span_paper(table, numbers, paper), True)
        made = slow_rank(table) == slow_rank(table + (numbers,))
        self.assertEqual(word, "numbers" if made else "test")
        if made:
            self.assertTrue(all(is_quotient(part) for part in told))
            for column, number in enumerate(numbers):
                self.assertEqual(pair(told, [row[column] for row in table]), number)
        else:
            self.assertTrue(all(type(part) is int for part in told))
            self.assertTrue(all(pair(told, row) == 0 for row in table))
            self.assertNotEqual(pair(told, numbers), 0)

    def test_papers(self):
        dice = random.Random(4)
        for table in some_tables():
            width = len(table[0])
            for numbers in [(0,) * width, table[0], tuple(dice.randint(-3, 3) for _ in range(width)),
                            tuple((a + b) // 2 for a, b in zip(table[0], table[-1]))]:
                self.check_paper(table, numbers, tables.span_paper(table, numbers))

    def test_papers_of_others(self):
        # [1.4]: all multiples of a test, all ratios that make the row, of any size
        for scale in (1, -1, 7, HUGE, -HUGE * HUGE):
            told = ("test", tuple(scale * number for number in (-2, 2, -2)))
            self.assertIs(tables.is_span_paper(THREE, (1, 0, 0), told), True)
        for more in (fraction(0), fraction((1, 3)), fraction(HUGE), fraction((HUGE, HUGE - 1))):
            # row 0 less row 1 less row 2 is 0
            told = tuple(ratio(number) for number in (2 + more, 1 - more, -more))
            self.assertIs(tables.is_span_paper(THREE, (2, 4, 2), ("numbers", told)), True)
        self.assertIs(tables.is_span_paper(((0, 0),), (0, 0), ("numbers", ((HUGE, 1),))), True)

    def test_near_papers(self):
        right = ((2, 1), (1, 1), (0, 1))
        self.assertIs(tables.is_span_paper(THREE, (2, 4, 2), ("numbers", right)), True)
        wrong = [
            ("numbers", ((2, 1), (1, 1))), ("numbers", right + ((0, 1),)), ("numbers", ((2, 1), (1, 1), (1, 1))),
            ("numbers", ((2, 1), (1, 1), 0)), ("numbers", (2, 1, 0)), ("numbers", ((4, 2), (1, 1), (0, 1))),
            ("numbers", ((2, 1), (True, 1), (0, 1))), ("numbers", ((2, 1), (1, True), (0, 1))),
            ("numbers", ((-2, -1), (1, 1), (0, 1))), ("numbers", ([2, 1], (1, 1), (0, 1))),
            ("numbers", ((2, 1), (1, 1), (0, 2))), ("numbers", list(right)), ["numbers", right],
            ("numbers", right, None), ("numbers",), ("number", right), ("test", right), (right,), right,
            ("numbers", ((2, 1), (1, 1), (0, 0))), ("test", (1, -1, 1)), ("test", (0, 0, 0)), None,
        ]
        for value in wrong:
            self.assertIs(tables.is_span_paper(THREE, (2, 4, 2), value), False, repr(value))
        self.assertIs(tables.is_span_paper(THREE, (1, 0, 0), ("test", (-2, 2, -2))), True)
        wrong = [
            ("test", (-2, 2)), ("test", (-2, 2, -2, 0)), ("test", (0, 0, 0)), ("test", (-2, 2, 2)), ("test", [-2, 2, -2]),
            ("test", ((-2, 1), (2, 1), (-2, 1))), ("numbers", (-2, 2, -2)), ["test", (-2, 2, -2)], ("test", None),
            ("numbers", ((1, 1), (0, 1), (0, 1))), ("test", (-2, 2, "a")), ("tests", (-2, 2, -2)), (None, (-2, 2, -2)),
        ]
        for value in wrong:
            self.assertIs(tables.is_span_paper(THREE, (1, 0, 0), value), False, repr(value))
        # True is not 1 in a judged value
        self.assertIs(tables.is_span_paper(((1, 1),), (1, 0), ("test", (1, -1))), True)
        self.assertIs(tables.is_span_paper(((1, 1),), (1, 0), ("test", (True, -1))), False)

    def test_any_value_is_judged(self):
        for value in any_values():
            self.assertIs(tables.is_span_paper(THREE, (2, 4, 2), value), False)
            for word in ("numbers", "test"):
                self.assertIs(tables.is_span_paper(THREE, (2, 4, 2), (word, value)), False)
                self.assertIs(tables.is_span_paper(THREE, (2, 4, 2), (word, (value, value, value))), False)

    def test_untrue_statements(self):
        # [1.5]
        row = tables.kernel(((1, 1, 1),))
        self.assertNotEqual(pair(row[0], row[1]), 0)
        self.assertEqual(tables.span_paper(((2,),), (1,)), ("numbers", ((1, 2),)))
        self.assertEqual(tables.kernel(((1, 0), (0, 1))), tables.kernel(((1, 1), (0, 1))))


if __name__ == "__main__":
    unittest.main()
