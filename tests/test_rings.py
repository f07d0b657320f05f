"""Stage 6, products of classes: [6.1] to [6.5]."""

import itertools
import unittest

from stepletters.built.built import flags, projective, spaces, special_group, sphere
from stepletters.classes import rings
from stepletters.classes.classes import class_basis, class_count, class_row, coordinates
from stepletters.classes.rings import class_products, cup_length, is_product, pairing_rank, product_count
from stepletters.plain.ends import top_degree
from stepletters.towers.towers import Tower, beside, with_letter
from stepletters.words.sums import Sum, power
from stepletters.words.words import word_count
from support import (BALL, BENT, BOTH, CROSS, EMPTY, FULL, HALF, HUGE, KNIT, KNOT, LONGER, OVER, PLANE, ROW, SAMPLES,
                     SIXTY, TWIST, Case, any_values, fraction, slow_class_number, slow_rank, slow_row, slow_step_rows,
                     slow_words)

X = Sum.letter((2, 3), 0)
Y = Sum.letter((2, 3), 1)
ONE = Sum.one((2, 3))
ENDING = [BALL, PLANE, HALF, BOTH, TWIST, KNIT, EMPTY]


def zero(tower):
    """The sum 0 in the letters of a tower."""
    return Sum(tower.letters, {})


def some_step(tower, degree, factor=1):
    """A step of a degree with many words."""
    words = slow_words(tower.letters, degree - 1)
    return tower.step(Sum(tower.letters, {word: at + 1 for at, word in enumerate(words)}) * factor)


def products_of(tower, many, degree):
    """All products of `many` sums of class bases of degrees from 1 on that add up to a degree."""
    if many == 1:
        return list(class_basis(tower, degree)) if degree > 0 else []
    found = []
    for first in range(1, degree):
        for one in class_basis(tower, first):
            found += [one * other for other in products_of(tower, many - 1, degree - first)]
    return found


def slow_product_count(tower, many, degree):
    """The dimension of the `many`-fold products, by ranks of all of them."""
    steps = slow_step_rows(tower, degree - 1)
    rows = [slow_row(tower, a_sum, degree) for a_sum in products_of(tower, many, degree)]
    return slow_rank(steps + rows) - slow_rank(steps)


class ProductsTest(Case):
    def test_constants(self):
        self.same((rings.MAX_FACTORS, rings.MAX_FACTORED), (12, 24))

    def test_coordinates_of_products(self):
        for tower in SAMPLES + [CROSS]:
            for one, other in itertools.product(range(5), repeat=2):
                first, second = class_basis(tower, one), class_basis(tower, other)
                basis = class_basis(tower, one + other)
                if not first or not second:
                    continue
                found = class_products(tower, first, second, basis)
                wanted = tuple(tuple(coordinates(tower, basis, a * b) for b in second) for a in first)
                self.same(found, wanted)

    def test_the_class_of_a_product_hangs_on_the_classes_alone(self):
        # [6.1]
        for tower in (KNOT, BENT, BOTH, TWIST, PLANE):
            for one, other in itertools.product(range(1, 4), repeat=2):
                first, second = class_basis(tower, one), class_basis(tower, other)
                basis = class_basis(tower, one + other)
                if not first or not second:
                    continue
                moved = tuple(a + some_step(tower, one, (3, 7)) for a in first)
                bent = tuple(b - some_step(tower, other) * SIXTY * 5 for b in second)
                far = tuple(c + some_step(tower, one + other) for c in basis)
                self.same(class_products(tower, moved, bent, far), class_products(tower, first, second, basis))
                turned = class_products(tower, second, first, basis)
                sign = -1 if one % 2 and other % 2 else 1
                for at, row in enumerate(class_products(tower, first, second, basis)):
                    for to, told in enumerate(row):
                        self.assertEqual([fraction(n) for n in told], [sign * fraction(n) for n in turned[to][at]])

    def test_told_numbers(self):
        x = X * SIXTY * 9
        self.same(class_products(BALL, (ONE, ONE * 2), (x,), (X * 2,)),
                  ((((SIXTY * 9, 2),),), (((SIXTY * 9, 1),),)))
        self.same(class_products(BALL, (X, X), (X, X * 3), ()), (((), ()), ((), ())))
        self.same(class_products(BALL, (ONE,), (ONE * 3,), (ONE * 2,)), ((((3, 2),),),))
        self.same(class_products(EMPTY, (Sum.one(()),), (Sum.one(()),), (Sum.one(()),)), ((((1, 1),),),))
        # a product 0, and one that is a step
        a, b = Sum.letter((1, 1, 1), 0), Sum.letter((1, 1, 1), 1)
        self.same(class_products(KNOT, (a, b), (a, b), class_basis(KNOT, 2)), ((((0, 1),) * 2,) * 2,) * 2)
        # the numbers are by the sums of the basis, in their order
        c, d = class_basis(KNOT, 2)
        one, other = class_products(KNOT, (Sum.one(KNOT.letters),), (c,), (d, c)), ((((0, 1), (1, 1)),),)
        self.same(one, other)
        self.same(class_products(KNOT, (Sum.one(KNOT.letters),), (c + d * 2,), (c, d)), ((((1, 1), (2, 1)),),))

    def test_forty_sums_and_more(self):
        many = tuple(X * (at + 1) for at in range(40))
        found = class_products(BALL, many, (ONE,), (X,))
        self.same(found, tuple((((at + 1, 1),),) for at in range(40)))
        self.same(class_products(BALL, (ONE,), many, (X,))[0], tuple(((at + 1, 1),) for at in range(40)))
        for given in [(many + (X,), (ONE,), (X,)), ((ONE,), many + (X,), (X,)), ((ONE,), (X,), many + (X,))]:
            self.fails("InvalidOperation", None, class_products, BALL, *given)
        # 40 sums are too many for a basis here
        self.fails("InvalidOperation", None, class_products, BALL, (ONE,), (X,), many)

    def test_values_that_are_no_tuples_of_sums(self):
        wrong = [value for value in any_values() if value not in ((), X) or type(value) is list]
        wrong += [[X], (X, ONE), (Y,), (X + ONE,), (X, zero(BALL)), (zero(BALL),), (Sum.letter((2, 4), 0),), ((X,),),
                  (X, None), (X.terms,), (X, X * X), (Sum.letter((2,), 0),)]
        for value in wrong:
            if value == (zero(BALL),) or not isinstance(value, tuple) or len(value) > 0:
                self.fails("InvalidOperation", None, class_products, BALL, value, None, None)
                self.fails("InvalidOperation", None, class_products, BALL, (X,), value, None)
                self.fails("InvalidOperation", None, class_products, BALL, (X,), (ONE,), value)
        self.fails("InvalidOperation", None, class_products, BALL, (), (X,), ())
        self.fails("InvalidOperation", None, class_products, BALL, (X,), (), ())
        self.fails("InvalidOperation", None, class_products, BALL, (), (), ())
        for value in any_values():
            if not isinstance(value, Tower):
                self.fails("InvalidTower", None, class_products, value, None, None, None)

    def test_bases_that_are_none(self):
        for basis in [(), (X, X), (X, X * 2), (X * X,), (ONE,)]:
            self.fails("InvalidOperation", None, class_products, BALL, (ONE,), (X,), basis)
        self.fails("InvalidOperation", None, class_products, BALL, (X,), (X,), (X,))
        # a step alone is no basis
        self.fails("InvalidOperation", None, class_products, BALL, (X,), (X,), (X * X,))
        c, d = class_basis(KNOT, 2)
        step = Sum(KNOT.letters, {(1, 1, 0): 1})
        unit = (Sum.one(KNOT.letters),)
        for basis in [(c,), (c, c + step), (c, step), (c, d, c), (c * 2, c)]:
            self.fails("InvalidOperation", None, class_products, KNOT, unit, unit, basis)
            self.fails("InvalidOperation", None, class_products, KNOT, unit, (c,), basis)

    def test_great_degrees(self):
        high, low = power(X, 31), power(X, 30)
        self.fails("TooMany", 60, class_products, BALL, (high,), (ONE,), ())
        self.fails("TooMany", 60, class_products, BALL, (low,), (X,), (high,))
        self.same(class_products(BALL, (low,), (ONE,), ()), (((),),))
        self.same(class_products(BALL, (power(X, 29),), (X,), ()), (((),),))
        # a basis of another degree is told ahead of that, that it is none behind it
        self.fails("InvalidOperation", None, class_products, BALL, (high,), (X,), (high,))
        self.fails("TooMany", 60, class_products, BALL, (high,), (ONE,), (high,))
        first = Sum.letter(OVER.letters, 0)
        unit = Sum.one(OVER.letters)
        self.fails("TooMany", 150, class_products, OVER, (power(first, 19),), (unit,), ())
        self.fails("TooMany", 150, class_products, OVER, (power(first, 18),), (first,), (power(first, 19),))
        self.fails("TooMany", 60, class_products, OVER, (power(first, 31),), (unit,), ())
        self.fails("InvalidOperation", None, class_products, OVER, (power(first, 19),), (unit,), (first,))
        # 18 * 2 = 36: the degrees to 37 have at most 150 words
        self.fails("InvalidOperation", None, class_products, OVER, (power(first, 18),), (unit,), ())
        for degree in (10, 9, 5, 4, 3):
            # 210 and 252 words at 4 and 5: they count for all D from 3 on
            word = Sum(ROW.letters, {(1,) * degree + (0,) * (10 - degree): 1})
            self.fails("TooMany", 150, class_products, ROW, (word,), (Sum.one(ROW.letters),), (word,))
        basis = tuple(ROW.letter_sum(index) for index in range(10))
        self.same(class_products(ROW, basis[:1], (Sum.one(ROW.letters),), basis), ((((1, 1),) + ((0, 1),) * 9,),))
        # exactly 150 words at D, and at D + 1
        some = Sum.letter(FULL.letters, 3)
        basis = tuple(Sum(FULL.letters, {word: 1}) for word in slow_words(FULL.letters, 6))
        self.assertEqual(len(class_products(FULL, (some,), (Sum.one(FULL.letters),), basis)[0][0]), 11)
        eleven = power(Sum.letter(FULL.letters, 0), 11)
        # it is refused, but for the number of the sums in the basis alone
        self.fails("InvalidOperation", None, class_products, FULL, (eleven,), (Sum.one(FULL.letters),), (eleven,))
        twelve = power(Sum.letter(FULL.letters, 0), 12)
        self.fails("TooMany", 150, class_products, FULL, (twelve,), (Sum.one(FULL.letters),), (twelve,))
        odd = with_letter(FULL, 23, {}).letter_sum(4)
        more = Tower(odd.letters, ({},) * 5)
        self.fails("TooMany", 150, class_products, more, (odd,), (Sum.one(odd.letters),), (odd,))


class PairingTest(Case):
    def slow_pairing(self, tower, degree, top):
        first, second = class_basis(tower, degree), class_basis(tower, top - degree)
        basis = class_basis(tower, top)
        return slow_rank([[fraction(coordinates(tower, basis, a * b)[0]) for b in second] for a in first])

    def test_pairings(self):
        for tower in SAMPLES + [CROSS]:
            for top in range(9):
                if class_count(tower, top) == 1:
                    for degree in range(top + 1):
                        found = pairing_rank(tower, degree, top)
                        self.same(found, self.slow_pairing(tower, degree, top))
                        self.assertEqual(found, pairing_rank(tower, top - degree, top))

    def test_of_the_top_degree_it_is_the_class_number(self):
        # [6.2]
        for tower in ENDING + [flags(3), spaces(2, 4), spaces(2, 5), projective(4, 3), special_group(4), sphere(6),
                               beside(PLANE, HALF), beside(BALL, flags(3))]:
            top = top_degree(tower.letters)
            row = class_row(tower, top)
            self.same(tuple(pairing_rank(tower, degree, top) for degree in range(top + 1)), row)

    def test_told_ranks(self):
        self.same([pairing_rank(EMPTY, 0, 0), pairing_rank(KNOT, 1, 3), pairing_rank(KNOT, 0, 3)], [1, 2, 1])
        # below the top a product can be 0 in the class of the degree
        tower = Tower((2, 4, 3, 9), ({}, {}, {(2, 0, 0, 0): 1}, {}))
        self.same([class_count(tower, 4), pairing_rank(tower, 2, 4), pairing_rank(tower, 0, 4)], [1, 0, 1])
        free = Tower((2,), ({},))
        self.same([pairing_rank(free, degree, 60) for degree in (0, 1, 2, 30, 59, 60)], [1, 0, 1, 1, 0, 1])

    def test_errors(self):
        for value in any_values():
            if not isinstance(value, Tower):
                self.fails("InvalidTower", None, pairing_rank, value, None, None)
        for value in (None, True, False, -1, 61, LONGER, -LONGER, "3", (3,), [3], HUGE):
            self.fails("InvalidNumber", value, pairing_rank, BALL, value, None)
            self.fails("InvalidNumber", value, pairing_rank, BALL, value, -5)
            self.fails("InvalidNumber", value, pairing_rank, BALL, 60, value)
            self.fails("InvalidNumber", value, pairing_rank, OVER, 0, value)
        self.fails("InvalidOperation", None, pairing_rank, BALL, 3, 2)
        self.fails("InvalidOperation", None, pairing_rank, OVER, 60, 59)
        for top in (1, 3, 4, 60):
            self.fails("InvalidOperation", None, pairing_rank, BALL, 0, top)
        self.fails("InvalidOperation", None, pairing_rank, BOTH, 1, 2)

    def test_great_degrees(self):
        for top in (37, 38, 60):
            self.fails("TooMany", 150, pairing_rank, OVER, 0, top)
        self.fails("InvalidOperation", None, pairing_rank, OVER, 0, 36)
        self.fails("InvalidOperation", None, pairing_rank, FULL, 0, 22)
        self.fails("TooMany", 150, pairing_rank, FULL, 0, 23)
        for top in (3, 4, 5, 8, 10, 11, 60):
            self.fails("TooMany", 150, pairing_rank, ROW, 0, top)
        self.fails("InvalidOperation", None, pairing_rank, ROW, 0, 2)
        nine = Tower((1,) * 9, ({},) * 9)
        self.same([pairing_rank(nine, degree, 9) for degree in (0, 1, 4, 9)], [1, 9, 126, 1])
        # exactly 150 words at the top
        full = Tower((2, 2, 2, 6, 1), ({},) * 5)
        self.same(word_count(full.letters, 22), 150)
        self.fails("InvalidOperation", None, pairing_rank, full, 0, 22)


class CountsTest(Case):
    def test_counts(self):
        for tower in SAMPLES + [CROSS]:
            for many in (1, 2, 3, 4):
                for degree in range(8):
                    self.same(product_count(tower, many, degree), slow_product_count(tower, many, degree))

    def test_of_one_factor_they_are_all_classes(self):
        # [6.3]
        for tower in SAMPLES + [CROSS, KNIT]:
            self.same(product_count(tower, 1, 0), 0)
            for degree in range(1, 10):
                self.same(product_count(tower, 1, degree), slow_class_number(tower, degree))
                row = [product_count(tower, many, degree) for many in range(1, 13)]
                self.same(row, sorted(row, reverse=True))

    def test_great_degrees_and_numbers(self):
        free = Tower((2,), ({},))
        self.same([product_count(free, 12, 24), product_count(free, 11, 24), product_count(free, 12, 22)], [1, 1, 0])
        self.same([product_count(free, 1, 24), product_count(free, 2, 23), product_count(free, 12, 23)], [1, 0, 0])
        self.same([product_count(EMPTY, many, degree) for many in (1, 12) for degree in (0, 24)], [0] * 4)
        self.same([product_count(FULL, many, 22) for many in (1, 2, 9, 10, 12)], [150, 150, 123, 78, 0])

    def test_errors(self):
        for value in any_values():
            if not isinstance(value, Tower):
                self.fails("InvalidTower", None, product_count, value, None, None)
                self.fails("InvalidTower", None, is_product, value, None, None)
                self.fails("InvalidTower", None, cup_length, value, None)
        for value in (None, True, False, -1, 0, 13, LONGER, -LONGER, "3", (3,), [3], HUGE):
            self.fails("InvalidNumber", value, product_count, BALL, value, None)
            self.fails("InvalidNumber", value, product_count, OVER, value, 25)
            self.fails("InvalidNumber", value, is_product, BALL, value, None)
        for value in (None, True, False, -1, 25, LONGER, -LONGER, "3", (3,), [3], HUGE):
            self.fails("InvalidNumber", value, product_count, BALL, 12, value)
            self.fails("InvalidNumber", value, product_count, ROW, 1, value)
            self.fails("InvalidNumber", value, cup_length, BALL, value)
            self.fails("InvalidNumber", value, cup_length, ROW, value)

    def test_too_many_words(self):
        for degree in range(25):
            if degree < 3:
                product_count(ROW, 2, degree)
                cup_length(ROW, degree)
            else:
                self.fails("TooMany", 150, product_count, ROW, 1, degree)
                self.fails("TooMany", 150, cup_length, ROW, degree)
        self.same((product_count(FULL, 1, 22), cup_length(FULL, 22)), (150, 11))
        for degree in (23, 24):
            self.fails("TooMany", 150, product_count, FULL, 1, degree)
            self.fails("TooMany", 150, cup_length, FULL, degree)


class JudgedProductsTest(Case):
    def test_products(self):
        for tower in (KNOT, BENT, BOTH, TWIST, HALF, PLANE, CROSS):
            for degree in range(1, 8):
                steps = slow_step_rows(tower, degree - 1)
                for many in (1, 2, 3):
                    rows = steps + [slow_row(tower, a_sum, degree) for a_sum in products_of(tower, many, degree)]
                    for a_sum in class_basis(tower, degree):
                        for moved in (a_sum, a_sum * SIXTY * 3 + some_step(tower, degree)):
                            wanted = slow_rank(rows + [slow_row(tower, moved, degree)]) == slow_rank(rows)
                            self.assertIs(is_product(tower, many, moved), wanted)

    def test_steps_and_0(self):
        for many in (1, 2, 12):
            for tower in SAMPLES + [OVER, ROW, FULL]:
                self.assertIs(is_product(tower, many, zero(tower)), True)
            self.assertIs(is_product(BALL, many, X * X), True)
            self.assertIs(is_product(BALL, many, power(X, 12)), True)
            self.assertIs(is_product(KNOT, many, Sum(KNOT.letters, {(1, 1, 0): 5})), True)
            # the class of 1 is no product of classes of degrees from 1 on
            self.assertIs(is_product(BALL, many, ONE), False)
            self.assertIs(is_product(EMPTY, many, Sum.one(())), False)
        self.assertIs(is_product(BALL, 1, X), True)
        self.assertIs(is_product(BALL, 2, X), False)
        free = Tower((2,), ({},))
        self.assertIs(is_product(free, 12, power(free.letter_sum(0), 12)), True)
        self.assertIs(is_product(free, 12, power(free.letter_sum(0), 11)), False)
        # a sum of two products that is itself no single one
        first, second = BOTH.letter_sum(0), BOTH.letter_sum(1)
        self.assertIs(is_product(beside(BOTH, BOTH), 2, Sum((2, 2, 3, 3) * 2, {(1, 1) + (0,) * 6: 1, (0,) * 4 + (1, 1, 0, 0): 7})),
                      True)
        self.assertIs(is_product(BOTH, 2, first * second), True)
        self.assertIs(is_product(BOTH, 3, first * second), False)

    def test_errors(self):
        for value in any_values():
            self.fails("InvalidSum", None, is_product, KNOT, 1, value)
            if not isinstance(value, Sum) or value.letters != (2, 3):
                self.fails("InvalidSum", None, is_product, BALL, 12, value)
        for a_sum in (Y, X * Y, X + ONE, X + X * X, Y + X, power(X, 13), power(X, 31), power(X, 13) + ONE):
            self.fails("InvalidOperation", None, is_product, BALL, 2, a_sum)
        first = Sum.letter(OVER.letters, 0)
        self.assertIs(is_product(OVER, 2, power(first, 12)), True)
        self.fails("InvalidOperation", None, is_product, OVER, 2, power(first, 13))
        for many in (10, 4, 3, 2):
            word = Sum(ROW.letters, {(1,) * many + (0,) * (10 - many): 1})
            if many > 2:
                self.fails("TooMany", 150, is_product, ROW, 1, word)
            else:
                self.assertIs(is_product(ROW, 2, word), True)
        for many in (11, 12):
            some = power(Sum.letter(FULL.letters, 0), many)
            if many == 11:
                self.assertIs(is_product(FULL, 11, some), True)
            else:
                self.fails("TooMany", 150, is_product, FULL, 11, some)


class CupLengthTest(Case):
    def test_lengths(self):
        for tower in SAMPLES + [CROSS]:
            for most in range(8):
                wanted = 0
                for many in range(1, most + 1):
                    if any(slow_product_count(tower, many, degree) for degree in range(most + 1)):
                        wanted = many
                self.same(cup_length(tower, most), wanted)

    def test_told_lengths(self):
        free = Tower((2,), ({},))
        self.same([cup_length(free, most) for most in (0, 1, 2, 3, 23, 24)], [0, 0, 1, 1, 11, 12])
        self.same([cup_length(EMPTY, most) for most in (0, 24)], [0, 0])
        # more than 12 factors
        more = Tower((1, 1, 1, 2), ({},) * 4)
        self.same([cup_length(more, most) for most in (3, 4, 24)], [3, 3, 13])
        self.same([cup_length(special_group(4), most) for most in (2, 3, 8, 15, 24)], [0, 1, 2, 3, 3])
        self.same([cup_length(projective(2, 5), 24), cup_length(flags(3), 24), cup_length(spaces(2, 5), 12)], [5, 3, 6])

    def test_beside_one_another(self):
        # [6.4]
        tried = 0
        told = [(BALL, 2), (PLANE, 4), (KNOT, 3), (HALF, 11), (BOTH, 4), (EMPTY, 0), (flags(3), 6), (sphere(3), 3)]
        for (one, most), (other, last) in itertools.product(told, repeat=2):
            self.assertEqual(class_row(one, most + 6)[most + 1:], (0,) * 6)
            both = beside(one, other)
            words = [word_count(both.letters, degree) for degree in range(most + last + 2)]
            if most + last <= 24 and max(words) <= 150:
                tried += 1
                wanted = cup_length(one, most) + cup_length(other, last)
                self.same(cup_length(both, most + last), wanted)
        self.assertGreater(tried, 40)

    def test_untrue_statements(self):
        # [6.5]
        a, b = KNOT.letter_sum(0), KNOT.letter_sum(1)
        self.assertTrue(is_product(KNOT, 12, a * b))
        plane, loose = projective(2, 2), beside(sphere(2), sphere(4))
        cut = Tower((2, 4, 3, 7), ({}, {}, {(2, 0, 0, 0): 1}, {(0, 2, 0, 0): 1}))
        self.assertEqual(loose, Tower((2, 3, 4, 7), ({}, {(2, 0, 0, 0): 1}, {}, {(0, 0, 2, 0): 1})))
        self.assertEqual(class_row(loose, 10), class_row(cut, 10))
        straight = projective(2, 3)
        self.assertEqual(class_row(straight, 10), class_row(loose, 10))
        self.same([cup_length(straight, 6), cup_length(loose, 6), cup_length(plane, 4)], [3, 2, 2])


if __name__ == "__main__":
    unittest.main()
