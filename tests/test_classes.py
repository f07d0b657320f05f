"""Stage 5, classes: [5.1] to [5.7], with [0.11] and [0.14]."""

import itertools
import unittest
from fractions import Fraction

from stepletters.base.exact import is_quotient
from stepletters.classes import classes
from stepletters.classes.classes import (class_basis, class_count, class_paper, class_row, closed_count, coordinates,
                                         is_class_basis, is_class_paper, step_count)
from stepletters.towers.towers import Tower, beside, with_letter
from stepletters.words.sums import Sum, power
from stepletters.words.words import word_count
from support import (HUGE, LONGER, SIXTY, Case, any_values, as_fractions, fraction, slow_class_number, slow_rank,
                     slow_step_rows, slow_words)

BALL = Tower((2, 3), ({}, {(2, 0): 1}))
KNOT = Tower((1, 1, 1), ({}, {}, {(1, 1, 0): 1}))
HALF = Tower((3, 3, 5), ({}, {}, {(1, 1, 0): 1}))
BENT = Tower((2, 2, 3, 3, 4), ({}, {}, {(2, 0, 0, 0, 0): 1}, {(1, 1, 0, 0, 0): 1},
                               {(0, 1, 1, 0, 0): 1, (1, 0, 0, 1, 0): -1}))
TWIST = Tower((2, 3, 3, 3, 5), ({}, {(2, 0, 0, 0, 0): (2, 3)}, {}, {}, {(0, 0, 1, 1, 0): 1, (3, 0, 0, 0, 0): -1}))
OPEN = Tower((2, 2, 3), ({}, {}, {(1, 1, 0): 1, (0, 2, 0): (-1, 5)}))
EMPTY = Tower((), ())
LONG = Tower((2, 3, 3), ({}, {(2, 0, 0): (SIXTY, 2)}, {(2, 0, 0): (1, SIXTY)}))
ALL = [BALL, KNOT, HALF, BENT, TWIST, OPEN, EMPTY, LONG]
# exactly 150 words at 22, exactly 151 at 38; without odd letters there are none at odd degrees
FULL = Tower((2, 2, 2, 6), ({},) * 4)
OVER = Tower((2, 2, 6, 10), ({},) * 4)


def zero(tower):
    """The sum 0 in the letters of a tower."""
    return Sum(tower.letters, {})


def step_matrix(tower, degree):
    """The steps of this degree as rows."""
    return slow_step_rows(tower, degree - 1)


def row_of(tower, a_sum, degree):
    """The numbers of a sum at the words of a degree."""
    numbers = as_fractions(a_sum)
    return [numbers.get(word, Fraction(0)) for word in slow_words(tower.letters, degree)]


class NumbersTest(Case):
    def test_constants(self):
        self.same((classes.MAX_LISTED, classes.MAX_CLASSED), (150, 60))

    def test_the_three_numbers(self):
        for tower in ALL:
            for degree in range(9):
                steps = slow_rank(step_matrix(tower, degree))
                closed = len(slow_words(tower.letters, degree)) - slow_rank(step_matrix(tower, degree + 1))
                self.same(step_count(tower, degree), steps)
                self.same(closed_count(tower, degree), closed)
                self.same(class_count(tower, degree), closed - steps)

    def test_rows(self):
        for tower in ALL:
            row = class_row(tower, 7)
            self.same(row, tuple(slow_class_number(tower, degree) for degree in range(8)))
            self.same(class_row(tower, 0), (1,))
            self.same(class_row(tower, 3), row[:4])
        self.same(class_row(BALL, 60), (1, 0, 1) + (0,) * 58)
        self.same(class_row(EMPTY, 60), (1,) + (0,) * 60)
        self.same(class_row(Tower((40,), ({},)), 60), (1,) + (0,) * 39 + (1,) + (0,) * 20)

    def test_towers_beside_one_another(self):
        # [5.6]
        for one, other in itertools.combinations([BALL, KNOT, HALF, TWIST, OPEN], 2):
            left, right, both = class_row(one, 7), class_row(other, 7), class_row(beside(one, other), 7)
            for n in range(8):
                self.assertEqual(both[n], sum(left[i] * right[n - i] for i in range(n + 1)))

    def test_errors_of_numbers(self):
        for call in (closed_count, step_count, class_count, class_row, class_basis):
            for value in any_values():
                if not isinstance(value, Tower):
                    self.fails("InvalidTower", None, call, value, None)
            for value in (None, True, False, -1, 61, LONGER, -LONGER, "3", (3,), [3]):
                self.fails("InvalidNumber", value, call, BALL, value)
                self.fails("InvalidNumber", value, call, OVER, value)
        self.fails("InvalidTower", None, is_class_basis, None, None, None)
        self.fails("InvalidNumber", 61, is_class_basis, BALL, 61, None)

    def test_150_words_and_more(self):
        self.same([word_count((2, 2, 2, 6), 22), word_count((2, 2, 6, 10), 38)], [150, 151])
        for call in (closed_count, step_count, class_count, class_basis):
            for degree in (21, 22):
                call(FULL, degree)
            self.fails("TooMany", 150, call, FULL, 23)
            for degree in (37, 38, 39):
                self.fails("TooMany", 150, call, OVER, degree)
            self.fails("TooMany", 150, call, OVER, 40)
            call(OVER, 36)
        self.same((class_count(FULL, 22), closed_count(FULL, 22), step_count(FULL, 22)), (150, 150, 0))
        for degree in (37, 38, 39):
            self.fails("TooMany", 150, is_class_basis, OVER, degree, None)
        self.assertEqual(len(class_row(FULL, 22)), 23)
        self.fails("TooMany", 150, class_row, FULL, 23)
        self.assertEqual(len(class_row(OVER, 36)), 37)
        self.fails("TooMany", 150, class_row, OVER, 37)
        self.fails("TooMany", 150, class_row, OVER, 60)
        # 45 words at 2, then 120, 210, 252, 210, 120, 45: of the three degrees one alone has too many
        row = Tower((1,) * 10, ({},) * 10)
        self.same([class_count(row, degree) for degree in (2, 8, 9)], [45, 45, 10])
        for degree in range(3, 8):
            self.fails("TooMany", 150, class_count, row, degree)
        # without words of the asked degree the degrees beside it still count
        self.same([word_count(OVER.letters, degree) for degree in (37, 39)], [0, 0])


class BasisTest(Case):
    def check_basis(self, tower, degree, basis):
        """Closed sums of the degree, as many as the class number, independent up to steps."""
        self.assertIs(type(basis), tuple)
        self.assertEqual(len(basis), slow_class_number(tower, degree))
        for a_sum in basis:
            self.assertEqual((a_sum.letters, a_sum.degree, a_sum.is_level), (tower.letters, degree, True))
            self.assertIs(tower.is_closed(a_sum), True)
            self.assertTrue(all(is_quotient(number) for number in a_sum.terms.values()))
        rows = step_matrix(tower, degree)
        more = rows + [row_of(tower, a_sum, degree) for a_sum in basis]
        self.assertEqual(slow_rank(more), slow_rank(rows) + len(basis))

    def test_bases(self):
        for tower in ALL:
            for degree in range(8):
                basis = class_basis(tower, degree)
                self.check_basis(tower, degree, basis)
                self.assertIs(is_class_basis(tower, degree, basis), True)

    def test_bases_of_others(self):
        for tower in ALL:
            for degree in range(8):
                basis = list(class_basis(tower, degree))
                words = slow_words(tower.letters, degree - 1)
                step = tower.step(Sum(tower.letters, {word: at + 1 for at, word in enumerate(words)}))
                for factor in (-3, (1, 7), (SIXTY, SIXTY - 1)):
                    changed = [a_sum * factor + step * factor * SIXTY * SIXTY for a_sum in basis]
                    if len(changed) > 1:
                        changed[0] = changed[0] + changed[1] * SIXTY * 7
                        changed.reverse()
                    self.check_basis(tower, degree, tuple(changed))
                    self.assertIs(is_class_basis(tower, degree, tuple(changed)), True)

    def test_near_bases(self):
        for tower in ALL:
            for degree in range(8):
                basis = class_basis(tower, degree)
                near = [basis + (zero(tower),), basis + (Sum.one(tower.letters),), list(basis), basis + (None,)]
                if len(basis) > 0:
                    near += [basis[1:], basis[:-1] + (zero(tower),), basis[:-1] + (None,), basis[0], basis + basis[:1],
                             basis[:-1] + (basis[-1].terms,), (basis,), basis[:-1] + (basis[-1] + Sum.one(tower.letters),)
                             if degree else (zero(tower),), basis[:-1] + ((basis[-1],),)]
                if len(basis) > 1:
                    near += [basis[:-1] + (basis[0] * 2,), basis[1:] + (basis[1] + basis[-1] * 0,)]
                for word in slow_words(tower.letters, degree):
                    a_sum = Sum(tower.letters, {word: 1})
                    if not tower.is_closed(a_sum):
                        near.append((a_sum,) * len(basis) if basis else (a_sum,))
                for value in near:
                    self.assertIs(is_class_basis(tower, degree, value), False)
        # a sum that is a step up to a class of the basis
        x, y = Sum((1, 1, 1), {(0, 1, 1): 1}), Sum((1, 1, 1), {(1, 0, 1): 1})
        step = Sum((1, 1, 1), {(1, 1, 0): 4})
        self.assertIs(is_class_basis(KNOT, 2, (x, y)), True)
        self.assertIs(is_class_basis(KNOT, 2, (y + step, x - y)), True)
        self.assertIs(is_class_basis(KNOT, 2, (x, x + step)), False)
        self.assertIs(is_class_basis(KNOT, 2, (x, step)), False)
        self.assertIs(is_class_basis(BALL, 2, (Sum.letter((2, 4), 0),)), False)
        self.assertIs(is_class_basis(BALL, 2, (Sum.letter((2,), 0),)), False)

    def test_any_value_is_judged(self):
        for value in any_values():
            self.assertIs(is_class_basis(BALL, 2, value), False)
            self.assertIs(is_class_basis(BALL, 2, (value,)), value == Sum((2, 3), {(1, 0): 1}))
            self.assertIs(is_class_basis(BALL, 4, value), value == () and type(value) is tuple)


class PapersTest(Case):
    def closed_sums(self, tower, degree):
        """Closed sums of a degree: of a basis, steps, and both added."""
        words = slow_words(tower.letters, degree - 1)
        step = tower.step(Sum(tower.letters, {word: at + 1 for at, word in enumerate(words)}) * (1, 3))
        found = [step] if len(step) > 0 else []
        for a_sum in class_basis(tower, degree):
            found += [a_sum, a_sum + step, a_sum * (7, 2) - step * SIXTY * SIXTY]
        return found

    def check_paper(self, tower, a_sum, paper):
        rows = step_matrix(tower, a_sum.degree)
        wanted = row_of(tower, a_sum, a_sum.degree)
        is_step = slow_rank(rows + [wanted]) == slow_rank(rows)
        word, told = paper
        self.assertEqual(word, "step" if is_step else "test")
        if is_step:
            self.assertEqual(tower.step(told), a_sum)
            self.assertTrue(all(is_quotient(number) for number in told.terms.values()))
        else:
            self.assertTrue(all(type(number) is int for number in told))
            self.assertEqual(len(told), len(wanted))
            for row in rows:
                self.assertEqual(sum(a * b for a, b in zip(told, row)), 0)
            self.assertNotEqual(sum(a * b for a, b in zip(told, wanted)), 0)

    def test_papers(self):
        for tower in ALL:
            for degree in range(8):
                for a_sum in self.closed_sums(tower, degree):
                    paper = class_paper(tower, a_sum)
                    self.check_paper(tower, a_sum, paper)
                    self.assertIs(is_class_paper(tower, a_sum, paper), True)

    def test_papers_of_others(self):
        for tower in ALL:
            for degree in range(8):
                for a_sum in self.closed_sums(tower, degree):
                    word, told = class_paper(tower, a_sum)
                    if word == "step":
                        # the other sum need not be level
                        more = told + Sum.one(tower.letters) * SIXTY * SIXTY
                        self.assertIs(is_class_paper(tower, a_sum, (word, more)), True)
                        for factor in (0, -1, 2):
                            self.assertIs(is_class_paper(tower, a_sum, (word, told * factor)), False)
                        self.assertIs(is_class_paper(tower, a_sum, ("test", told)), False)
                    else:
                        for factor in (1, -1, HUGE, -HUGE * HUGE):
                            value = (word, tuple(number * factor for number in told))
                            self.assertIs(is_class_paper(tower, a_sum, value), True)
                        near = [told[:-1], told + (0,), (0,) * len(told), list(told), None,
                                tuple((number, 1) for number in told), told[:-1] + ("1",), told[:-1] + (None,)]
                        for value in near:
                            self.assertIs(is_class_paper(tower, a_sum, (word, value)), False)

    def test_near_papers(self):
        pair, last = Sum((1, 1, 1), {(1, 1, 0): 1}), Sum.letter((1, 1, 1), 2)
        right = [("step", last), ("step", last + Sum.one((1, 1, 1))), ("step", last + Sum.letter((1, 1, 1), 0) * 5)]
        wrong = [("step", last * 2), ("step", pair), ("step", Sum.letter((2, 3), 0)), ("step", last.terms), ["step", last],
                 ("step", last, None), ("test", (0, 0, 1)), ("test", (0, 1, 0)), ("steps", last), ("step",), (last,)]
        for value in right:
            self.assertIs(is_class_paper(KNOT, pair, value), True)
        for value in wrong:
            self.assertIs(is_class_paper(KNOT, pair, value), False)
        more = Sum((1, 1, 1), {(0, 1, 1): 1, (1, 1, 0): 5})
        self.assertIs(is_class_paper(KNOT, more, ("test", (1, 0, 0))), True)
        self.assertIs(is_class_paper(KNOT, more, ("test", (1, 9, 0))), True)
        for value in ((True, 0, 0), (1, 0, 1), (0, 1, 0), (1, 0), (1, False, 0)):
            self.assertIs(is_class_paper(KNOT, more, ("test", value)), False)

    def test_the_sum_0(self):
        for tower in ALL + [OVER]:
            word, told = class_paper(tower, zero(tower))
            self.assertEqual(word, "step")
            self.assertIs(tower.is_closed(told), True)
            self.assertIs(is_class_paper(tower, zero(tower), ("step", zero(tower))), True)
            self.assertIs(is_class_paper(tower, zero(tower), ("step", Sum.one(tower.letters))), True)
            for value in (("test", ()), ("test", (1,)), ("test", (0,)), ("step", None), None, ()):
                self.assertIs(is_class_paper(tower, zero(tower), value), False)
        self.assertIs(is_class_paper(BALL, zero(BALL), ("step", Sum.letter((2, 3), 1))), False)

    def test_the_degree_0(self):
        for tower in ALL:
            one = Sum.one(tower.letters)
            self.assertEqual(class_count(tower, 0), 1)
            self.assertEqual(class_paper(tower, one)[0], "test")
            self.assertIs(is_class_paper(tower, one, ("test", (-5,))), True)
            self.assertIs(is_class_paper(tower, one, ("test", (True,))), False)
            self.assertIs(is_class_basis(tower, 0, (one * (2, 7),)), True)

    def test_any_value_is_judged(self):
        for value in any_values():
            self.assertIs(is_class_paper(BALL, Sum((2, 3), {(2, 0): 1}), value), False)
            for word in ("step", "test"):
                self.assertIs(is_class_paper(BALL, Sum((2, 3), {(2, 0): 1}), (word, value)), False)

    def test_errors(self):
        for value in any_values():
            if not isinstance(value, Tower):
                self.fails("InvalidTower", None, class_paper, value, None)
                self.fails("InvalidTower", None, is_class_paper, value, None, None)
            self.fails("InvalidSum", None, class_paper, KNOT, value)
            self.fails("InvalidSum", None, is_class_paper, KNOT, value, None)
        x, y = Sum.letter((2, 3), 0), Sum.letter((2, 3), 1)
        for a_sum in (y, x * y, x + Sum.one((2, 3)), x + x * x, y + x):
            self.fails("InvalidOperation", None, class_paper, BALL, a_sum)
            self.fails("InvalidOperation", None, is_class_paper, BALL, a_sum, None)

    def test_errors_of_great_degrees(self):
        first = Sum.letter(OVER.letters, 0)
        for many in (19, 20):
            self.fails("TooMany", 150, class_paper, OVER, power(first, many))
            self.fails("TooMany", 150, is_class_paper, OVER, power(first, many), None)
        self.assertEqual(class_paper(OVER, power(first, 18))[0], "test")
        for degree in (37, 39):
            # just one word of the degree, and 151 of the degree beside it
            tower = with_letter(OVER, degree, {})
            self.fails("TooMany", 150, class_paper, tower, tower.letter_sum(4))
            self.fails("TooMany", 150, is_class_paper, tower, tower.letter_sum(4), None)
            self.fails("TooMany", 150, coordinates, tower, (tower.letter_sum(4),), tower.letter_sum(4))
        self.fails("TooMany", 60, class_paper, OVER, power(first, 31))
        self.fails("TooMany", 60, is_class_paper, BALL, power(Sum.letter((2, 3), 0), 31), None)
        self.assertEqual(class_paper(BALL, power(Sum.letter((2, 3), 0), 30))[0], "step")
        # a sum that is not closed or not level is told ahead of that
        x, y = Sum.letter((2, 3), 0), Sum.letter((2, 3), 1)
        self.fails("InvalidOperation", None, class_paper, BALL, power(x, 31) * y)
        self.fails("InvalidOperation", None, class_paper, BALL, power(x, 31) + x)
        self.fails("InvalidOperation", None, class_paper, OVER, power(first, 31) + first)


class CoordinatesTest(Case):
    def test_coordinates(self):
        for tower in ALL:
            for degree in range(8):
                basis = class_basis(tower, degree)
                words = slow_words(tower.letters, degree - 1)
                step = tower.step(Sum(tower.letters, {word: at + 2 for at, word in enumerate(words)}) * (1, 5))
                for numbers in [(1, 2, 3, 4, 5, 6), ((1, 2), (-3, 7), 0, 5, (7, 3), 1), (0,) * 6,
                                (SIXTY, (1, SIXTY), -SIXTY, 1, 2, 3)]:
                    a_sum = step
                    for base, number in zip(basis, numbers):
                        a_sum = a_sum + base * number
                    found = coordinates(tower, basis, a_sum)
                    self.assertIs(type(found), tuple)
                    self.assertEqual(len(found), len(basis))
                    for told, number in zip(found, numbers):
                        self.assertEqual(fraction(told), fraction(number))
                        self.same(told, Fraction(*told).as_integer_ratio())

    def test_edges(self):
        self.same(coordinates(BALL, (), zero(BALL)), ())
        self.same(coordinates(OVER, (), zero(OVER)), ())
        x = Sum.letter((2, 3), 0)
        self.same(coordinates(BALL, (), x * x), ())
        self.same(coordinates(BALL, (x * 2,), zero(BALL)), ((0, 1),))
        self.same(coordinates(BALL, (x * 2,), x * 3), ((3, 2),))
        long = x * SIXTY * SIXTY
        self.same(coordinates(BALL, (long,), x), ((1, SIXTY * SIXTY),))
        self.same(coordinates(BALL, (x,), long), ((SIXTY * SIXTY, 1),))
        self.same(coordinates(EMPTY, (Sum.one(()),), Sum.one(()) * 5), ((5, 1),))

    def test_errors(self):
        x, y = Sum.letter((2, 3), 0), Sum.letter((2, 3), 1)
        one = Sum.one((2, 3))
        self.fails("InvalidTower", None, coordinates, None, None, None)
        for value in [None, True, 3, "a", x, [x], {}, (None,), (x, None), (zero(BALL),), (x, zero(BALL)), (y,), (x + one,),
                      (x, one), (Sum.letter((2,), 0),), (x, x.terms), ((x,),), (x, Sum.letter((2, 4), 0)), (x, x * y)]:
            # a wrong basis is told ahead of a wrong sum
            self.fails("InvalidOperation", None, coordinates, BALL, value, x)
            self.fails("InvalidOperation", None, coordinates, BALL, value, None)
        for value in [None, 3, (), x.terms, Sum.letter((2,), 0), Sum((), {})]:
            self.fails("InvalidSum", None, coordinates, BALL, (x,), value)
            self.fails("InvalidSum", None, coordinates, BALL, (), value)
            self.fails("InvalidSum", None, coordinates, BALL, (x, x), value)
        for value in (y, x + one, x * y, one, x * x):
            self.fails("InvalidOperation", None, coordinates, BALL, (x,), value)
        for value in (y, x + one, x * y):
            self.fails("InvalidOperation", None, coordinates, BALL, (), value)

    def test_no_class_basis(self):
        x = Sum.letter((2, 3), 0)
        for basis, a_sum in [((), x), ((), Sum.one((2, 3))), ((x, x), x), ((x, x * 2), zero(BALL)), ((x * x,), x * x)]:
            self.fails("InvalidOperation", None, coordinates, BALL, basis, a_sum)

    def test_errors_of_great_degrees(self):
        first = Sum.letter(OVER.letters, 0)
        for many in (19, 20):
            some = power(first, many)
            self.fails("TooMany", 150, coordinates, OVER, (some,), some)
            self.fails("TooMany", 150, coordinates, OVER, (some,), zero(OVER))
            self.fails("TooMany", 150, coordinates, OVER, (), some)
        high = power(first, 31)
        self.fails("TooMany", 60, coordinates, OVER, (high,), zero(OVER))
        self.fails("TooMany", 60, coordinates, OVER, (), high)
        self.fails("InvalidOperation", None, coordinates, OVER, (high,), first)
        self.fails("InvalidOperation", None, coordinates, OVER, (), high + first)
        x = Sum.letter((2, 3), 0)
        self.fails("TooMany", 60, coordinates, BALL, (power(x, 31),), power(x, 31))

    def test_untrue_statements(self):
        # [5.7]
        pair = Sum((1, 1, 1), {(1, 1, 0): 1})
        self.assertEqual(class_paper(KNOT, pair)[0], "step")
        self.assertEqual(class_row(EMPTY, 9), class_row(Tower((3, 4), ({}, {})), 9)[:1] + (0,) * 9)
        gap = Tower((2, 2, 3, 3), ({}, {}, {(2, 0, 0, 0): 1}, {(0, 2, 0, 0): 1}))
        self.assertEqual(class_row(gap, 5), (1, 0, 2, 0, 1, 0))
        x = Sum.letter((2, 3), 0)
        self.assertTrue(is_class_basis(BALL, 2, (x,)) and is_class_basis(BALL, 2, (x * 2,)))


if __name__ == "__main__":
    unittest.main()
