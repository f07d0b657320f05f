"""Stage 16, maps of towers: [16.1] to [16.7]."""

import itertools
import random
import unittest
from fractions import Fraction

from stepletters.built.built import projective, sphere
from stepletters.classes.classes import class_basis, class_paper, class_row
from stepletters.towers import maps
from stepletters.towers.maps import class_map, composed, is_map, led, linear_part, map_fault
from stepletters.towers.towers import Tower
from stepletters.words.sums import Sum, power
from stepletters.words.words import each_word, word_count
from support import (BALL, BENT, BOTH, EMPTY, FULL, HALF, KNOT, LONGER, OVER, ROW, SIXTY, TWIST, Case, any_values, as_fractions,
                     fraction, slow_rank, slow_row, slow_sorted, slow_step_rows, slow_words, spelled)

PLANE, FREE, FOUR = Tower((2, 5), ({}, {(3, 0): 1})), Tower((2,), ({},)), Tower((4,), ({},))
SIX = Tower((6,), ({},))
ONES = Tower((1, 1, 1, 2), ({}, {}, {(1, 1, 0, 0): 1}, {}))
X, Y = BALL.letter_sum(0), BALL.letter_sum(1)
Z = FREE.letter_sum(0)
NONE = (None, True, False, -1, LONGER, -LONGER, "3", (3,), [3], {})


def zero(tower):
    return Sum(tower.letters, {})


def identity(tower):
    return tuple(tower.letter_sum(index) for index in range(tower.size))


def sums(tower, *terms):
    return tuple(Sum(tower.letters, row) for row in terms)


P5 = projective(2, 3)
# right maps: one tower, another one, the images
MAPS = [
    (PLANE, BALL, (X, X * Y)), (BALL, BALL, (X, Y)), (BALL, BALL, (X * 2, Y * 4)), (BALL, BALL, (zero(BALL),) * 2),
    (BALL, BALL, (X * (1, SIXTY), Y * (1, SIXTY) * (1, SIXTY))), (FOUR, FREE, (Z * Z * -3,)), (FREE, FREE, (Z * (2, 3),)),
    (FOUR, FREE, (zero(FREE),)), (EMPTY, BALL, ()), (EMPTY, EMPTY, ()), (BALL, EMPTY, (zero(EMPTY),) * 2),
    (P5, PLANE, sums(PLANE, {(1, 0): 3}, {(1, 1): 81})), (P5, BALL, sums(BALL, {(1, 0): 1}, {(2, 1): 1})),
    (BALL, BOTH, sums(BOTH, {(1, 0, 0, 0): 2}, {(0, 0, 1, 0): 4})), (BALL, BOTH, sums(BOTH, {(0, 1, 0, 0): 1}, {(0, 0, 0, 1): 1})),
    (BOTH, BALL, (X, X * 3, Y, Y * 9)), (BOTH, BOTH, sums(BOTH, {(0, 1, 0, 0): 1}, {(1, 0, 0, 0): 5}, {(0, 0, 0, 1): 1}, {(0, 0, 1, 0): 25})),
    (KNOT, KNOT, sums(KNOT, {(1, 0, 0): 1, (0, 1, 0): 2}, {(0, 1, 0): 3}, {(0, 0, 1): 3, (1, 0, 0): (7, 2)})),
    (KNOT, ONES, sums(ONES, {(1, 0, 0, 0): 1}, {(0, 1, 0, 0): 1}, {(0, 0, 1, 0): 1, (0, 1, 0, 0): -2})),
    (HALF, HALF, sums(HALF, {(0, 1, 0): 1}, {(1, 0, 0): 1}, {(0, 0, 1): -1})), (HALF, EMPTY, (zero(EMPTY),) * 3),
    (BENT, BENT, identity(BENT)), (TWIST, TWIST, identity(TWIST)), (SIX, FREE, (power(Z, 3) * 2,)),
    (BENT, BENT, sums(BENT, {(1, 0, 0, 0, 0): 2}, {(0, 1, 0, 0, 0): 3}, {(0, 0, 1, 0, 0): 4}, {(0, 0, 0, 1, 0): 6}, {(0, 0, 0, 0, 1): 12})),
    (Tower((3, 3), ({}, {})), HALF, sums(HALF, {(1, 0, 0): 1, (0, 1, 0): 2}, {(1, 0, 0): -1})),
    (Tower((6,), ({},)), KNOT, (zero(KNOT),)), (sphere(3), BOTH, sums(BOTH, {(0, 0, 1, 0): 0})),
]
# images with their first fault
FAULTS = [
    (PLANE, BALL, (X, Y), ("degree", 1)), (BALL, BALL, (X, Y * 2), ("step", 1)), (BALL, BALL, (X, X), ("degree", 1)),
    (BALL, BALL, (X + Sum.one((2, 3)), Y), ("degree", 0)), (BALL, BALL, (X * X, Y + X), ("degree", 0)), (BALL, BALL, (Y, X), ("degree", 0)),
    (BALL, BALL, (X, X - X), ("step", 1)), (BALL, BALL, (X - X, Y), ("step", 1)), (FREE, BALL, (Y,), ("degree", 0)),
    (Tower((3,), ({},)), BALL, (Y,), ("step", 0)), (KNOT, KNOT, sums(KNOT, {(0, 1, 0): 1}, {(1, 0, 0): 1}, {(0, 0, 1): 1}), ("step", 2)),
    (HALF, HALF, sums(HALF, {(1, 0, 0): 1}, {}, {(0, 0, 1): 1}), ("step", 2)), (KNOT, KNOT, sums(KNOT, {(0, 0, 1): 1}, {}, {}), ("step", 0)),
    (HALF, HALF, sums(HALF, {(0, 0, 1): 1}, {(1, 0, 0): 1, (0, 0, 0): 1}, {}), ("degree", 0)),
    (HALF, HALF, sums(HALF, {(1, 0, 0): 1}, {(1, 0, 0): 1, (0, 0, 0): 1}, {(1, 1, 0): 1}), ("degree", 1)),
    (Tower((3, 3, 6), ({},) * 3), HALF, sums(HALF, {(1, 0, 0): 1}, {(0, 1, 0): 1}, {(0, 1, 1): 1}), ("degree", 2)),
    (Tower((3, 3, 8), ({},) * 3), HALF, sums(HALF, {(1, 0, 0): 1}, {(0, 1, 0): 1}, {(0, 1, 1): 1}), None),
    (Tower((3, 5), ({},) * 2), HALF, sums(HALF, {}, {(0, 0, 1): (1, 9)}), ("step", 1)),
]
SOME = MAPS + [(one, other, images) for one, other, images, fault in FAULTS if fault is None]


def slow_led(one, other, images, a_sum):
    """What a sum is led to: letters replaced one by one, then brought into order; fractions."""
    found = {}
    parts = [list(as_fractions(image).items()) for image in images]
    for word, number in as_fractions(a_sum).items():
        for chosen in itertools.product(*[parts[index] for index in spelled(word)]):
            made = slow_sorted(other.letters, [letter for inner, _ in chosen for letter in spelled(inner)])
            if made is not None:
                size = number * made[0]
                for _, factor in chosen:
                    size *= factor
                found[made[1]] = found.get(made[1], Fraction(0)) + size
    return {word: number for word, number in found.items() if number != 0}


def some_sums(tower, seed, most=8):
    """Sums in the letters of a tower, with few words."""
    some = random.Random(seed)
    words = list(each_word(tower.letters, most))
    for _ in range(4):
        chosen = some.sample(words, min(len(words), 4))
        yield Sum(tower.letters, {word: some.choice([1, -2, (1, 3), (-5, 2)]) for word in chosen})


class MapsTest(Case):
    def test_constant(self):
        self.same(maps.MAX_MAPPED, 150)

    def test_faults(self):
        # [16.2]
        for one, other, images in MAPS:
            self.same(map_fault(one, other, images), None)
            self.assertIs(is_map(one, other, images), True)
        for one, other, images, fault in FAULTS:
            self.same(map_fault(one, other, images), fault)
            self.assertIs(is_map(one, other, images), fault is None)
            if fault is not None:
                for call, more in ((led, (None,)), (linear_part, (0,)), (class_map, (-1,))):
                    self.fails("InvalidMap", None, call, one, other, images, *more)
        long = Sum((2, 3), {(1, 0): SIXTY})
        self.assertIs(is_map(BALL, BALL, (long * SIXTY, Y * SIXTY * SIXTY * SIXTY * SIXTY)), True)
        self.assertIs(is_map(BALL, BALL, (long * SIXTY, Y * SIXTY * SIXTY * SIXTY * (SIXTY - 1))), False)

    def test_values_that_are_no_images(self):
        for value in any_values() + [(X,), (X, Y, X), [X, Y], (X, None), (Z, Y), (X, PLANE.letter_sum(1)), ({(1, 0): 1}, Y), (X, 0), ((), ())]:
            self.assertIs(is_map(BALL, BALL, value), False)
            self.fails("InvalidMap", None, map_fault, BALL, BALL, value)
            self.fails("InvalidMap", None, led, BALL, BALL, value, None)
            self.fails("InvalidMap", None, linear_part, BALL, BALL, value, 0)
            self.fails("InvalidMap", None, class_map, BALL, BALL, value, 61)
            self.fails("InvalidMap", None, composed, BALL, BALL, BALL, value, None)
            self.fails("InvalidMap", None, composed, BALL, BALL, BALL, (X, Y), value)
            self.assertIs(is_map(EMPTY, BALL, value), value == ())

    def test_values_that_are_no_towers(self):
        for value in any_values():
            if not isinstance(value, Tower):
                for call, more in ((map_fault, (None,)), (is_map, (None,)), (led, (None, None)), (linear_part, (None, 0)), (class_map, (None, -1))):
                    self.fails("InvalidTower", None, call, value, None, *more)
                    self.fails("InvalidTower", None, call, value, BALL, *more)
                    self.fails("InvalidTower", None, call, BALL, value, *more)
                for towers in ((value, None, None), (BALL, value, None), (BALL, BALL, value), (value, BALL, BALL), (BALL, value, BALL)):
                    self.fails("InvalidTower", None, composed, *towers, None, None)

    def test_too_many_words(self):
        # exactly 150 words of the degree 22 in FULL; 151 of the degree 38 in OVER; more than 150 behind
        full = [word_count(FULL.letters, degree) for degree in range(41)]
        self.same((full[22], max(full[:24]), full[24] > 150), (150, 150, True))
        counts = [word_count(OVER.letters, degree) for degree in range(41)]
        self.same((counts[38], max(counts[:38])), (151, max(counts[:38])))
        self.assertLessEqual(max(counts[:38]), 150)
        for other, degree, fits in ((FULL, 22, True), (FULL, 21, True), (FULL, 23, False), (OVER, 36, True), (OVER, 37, False), (OVER, 38, False),
                                    (ROW, 2, True), (ROW, 3, False), (ROW, 4, False), (ROW, 40, False)):
            one = Tower((degree, 1), ({}, {}))
            images = (zero(other), zero(other))
            wrong = (Sum(other.letters, {(1,) + (0,) * (other.size - 1): 1}), zero(other))
            if fits:
                self.assertIs(is_map(one, other, images), True)
                self.same(map_fault(one, other, wrong), ("degree", 0))
                continue
            for value in any_values() + [images, wrong]:
                self.fails("TooMany", 150, is_map, one, other, value)
                if not isinstance(value, tuple) or len(value) != 2 or value[0] not in (images + wrong):
                    self.fails("InvalidMap", None, map_fault, one, other, value)
            for value in (images, wrong):
                self.fails("TooMany", 150, map_fault, one, other, value)
                self.fails("TooMany", 150, led, one, other, value, None)
                self.fails("TooMany", 150, linear_part, one, other, value, 0)
                self.fails("TooMany", 150, class_map, one, other, value, 61)
                self.fails("TooMany", 150, composed, one, other, BALL, value, None)
                self.fails("TooMany", 150, composed, BALL, one, other, (zero(one),) * 2, value)
        # without letters the degrees 0 and 1 are asked for alone
        self.assertIs(is_map(EMPTY, ROW, ()), True)
        many = Tower((1,) * 24, ({},) * 24)
        self.same([word_count(many.letters, degree) for degree in (0, 1, 2)], [1, 24, 276])
        self.assertIs(is_map(EMPTY, many, ()), True)
        self.fails("TooMany", 150, is_map, Tower((1,), ({},)), many, None)
        self.assertIs(is_map(Tower((2,), ({},)), ROW, (zero(ROW),)), True)

    def test_maps_go_along_with_steps_and_products(self):
        # [16.2]
        for at, (one, other, images) in enumerate(SOME):
            for a_sum in some_sums(one, at):
                for more in some_sums(one, at + 100, 5):
                    self.assertEqual(led(one, other, images, a_sum * more),
                                     led(one, other, images, a_sum) * led(one, other, images, more))
                self.assertEqual(led(one, other, images, one.step(a_sum)), other.step(led(one, other, images, a_sum)))
                self.assertIs(other.is_closed(led(one, other, images, one.step(a_sum))), True)


class LedTest(Case):
    def test_led_sums(self):
        # [16.1]
        for at, (one, other, images) in enumerate(SOME):
            for a_sum in list(some_sums(one, at + 50, 7)) + [zero(one), Sum.one(one.letters)]:
                found = led(one, other, images, a_sum)
                self.same(found.letters, other.letters)
                self.assertEqual(as_fractions(found), slow_led(one, other, images, a_sum))
        # two odd letters that change places
        turned = (HALF, HALF, sums(HALF, {(0, 1, 0): 1}, {(1, 0, 0): 1}, {(0, 0, 1): -1}))
        self.same(led(*turned, Sum((3, 3, 5), {(1, 1, 1): 2})).terms, {(1, 1, 1): (2, 1)})
        self.same(led(PLANE, BALL, (X, X * Y), Sum((2, 5), {(1, 1): 3, (2, 0): (1, 2)})).terms, {(2, 0): (1, 2), (2, 1): (3, 1)})
        self.same(led(EMPTY, BALL, (), Sum((), {(): (5, 3)})).terms, {(0, 0): (5, 3)})
        self.same(led(BALL, EMPTY, (zero(EMPTY),) * 2, X + Sum.one((2, 3)) * 4).terms, {(): (4, 1)})

    def test_bounds(self):
        images = (X * 2, Y * 4)
        self.same(led(BALL, BALL, images, Sum((2, 3), {(30, 0): 1, (28, 1): 1})).terms, {(28, 1): (2 ** 30, 1), (30, 0): (2 ** 30, 1)})
        for word in ((29, 1), (31, 0), (200, 0)):
            self.fails("TooMany", 60, led, BALL, BALL, images, Sum((2, 3), {word: 1, (0, 0): 1}))
        for value in any_values() + [Z, PLANE.letter_sum(0)]:
            if not (isinstance(value, Sum) and value.letters == (2, 3)):
                self.fails("InvalidSum", None, led, BALL, BALL, images, value)
        # the words of the other tower of all degrees up to that of a word
        one, images = Tower((2,), ({},)), (FULL.letter_sum(0),)
        for many, fits in ((11, True), (12, False), (30, False), (31, None)):
            told = Sum((2,), {(many,): (2, 3), (0,): 1})
            if fits:
                self.same(led(one, FULL, images, told).terms, {(0, 0, 0, 0): (1, 1), (many, 0, 0, 0): (2, 3)})
            else:
                self.fails("TooMany", 150 if fits is False else 60, led, one, FULL, images, told)
        self.same(led(one, FULL, images, zero(one)).terms, {})
        self.same(led(Tower((1,), ({},)), ROW, (zero(ROW),), Sum((1,), {(0,): 3})).terms, {(0,) * 10: (3, 1)})
        wide = Tower((1,) * 5, ({},) * 5)
        self.fails("TooMany", 150, led, wide, ROW, (zero(ROW),) * 5, Sum((1,) * 5, {(1, 1, 1, 1, 0): 1}))
        self.same(led(wide, ROW, (zero(ROW),) * 5, Sum((1,) * 5, {(1, 1, 1, 0, 0): 1})).terms, {})
        # longer than sixty digits
        long = Sum((2,), {(1,): SIXTY}) * SIXTY
        self.same(led(FREE, FREE, (Z * SIXTY,), long * long).terms, {(2,): (SIXTY ** 6, 1)})


class ComposedTest(Case):
    def test_composed_maps(self):
        # [16.3]
        tried = 0
        for (one, two, first), (start, three, second) in itertools.product(SOME, repeat=2):
            if two != start:
                continue
            tried += 1
            found = composed(one, two, three, first, second)
            self.assertIsInstance(found, tuple)
            self.assertEqual(found, tuple(led(two, three, second, image) for image in first))
            self.assertIs(is_map(one, three, found), True)
            for a_sum in some_sums(one, tried, 6):
                self.assertEqual(led(one, three, found, a_sum), led(two, three, second, led(one, two, first, a_sum)))
            for degree in {1, 2, 3} | set(one.letters):
                self.same(linear_part(one, three, found, degree),
                          product(linear_part(one, two, first, degree), linear_part(two, three, second, degree),
                                  [letter for letter in three.letters if letter == degree]))
        self.assertGreater(tried, 25)
        for one, other, images in SOME:
            self.assertEqual(composed(one, one, other, identity(one), images), images)
            self.assertEqual(composed(one, other, other, images, identity(other)), images)

    def test_identity(self):
        # [16.3]
        for tower in (BALL, PLANE, KNOT, HALF, BENT, TWIST, BOTH, EMPTY):
            for a_sum in some_sums(tower, 3):
                self.assertEqual(led(tower, tower, identity(tower), a_sum), a_sum)
            for degree in range(9):
                self.same(class_map(tower, tower, identity(tower), degree), class_row(tower, degree)[degree])

    def test_errors(self):
        good, wrong = (X, Y), (X, X)
        self.fails("InvalidMap", None, composed, BALL, BALL, BALL, wrong, None)
        self.fails("InvalidMap", None, composed, BALL, BALL, BALL, good, wrong)
        self.fails("InvalidMap", None, composed, BALL, BALL, FREE, good, wrong)
        self.fails("InvalidMap", None, composed, BALL, BALL, BALL, None, (zero(FREE),) * 2)
        # the images of the first map have a degree of which the third tower has too many words
        two = Tower((12, 12), ({}, {}))
        one = Tower((24,), ({},))
        first = (Sum((12, 12), {(1, 1): 1}),)
        second = (zero(FULL),) * 2
        self.assertIs(is_map(two, FULL, second), True)
        self.fails("TooMany", 150, composed, one, two, FULL, first, second)
        self.assertEqual(composed(one, two, FULL, (zero(two),), second), (zero(FULL),))
        self.assertEqual(composed(Tower((12,), ({},)), two, FULL, (two.letter_sum(0),), second), (zero(FULL),))


def product(one, other, columns):
    """The product of two tables of ratios."""
    found = []
    for row in one:
        numbers = [sum((fraction(row[k]) * fraction(other[k][j]) for k in range(len(other))), Fraction(0)) for j in range(len(columns))]
        found.append(tuple((number.numerator, number.denominator) for number in numbers))
    return tuple(found)


class LinearTest(Case):
    def test_linear_parts(self):
        # [16.4]
        for one, other, images in SOME:
            for degree in (1, 2, 3, 4, 5, 7, 40):
                rows = [image for letter, image in zip(one.letters, images) if letter == degree]
                columns = [index for index, letter in enumerate(other.letters) if letter == degree]
                wanted = tuple(tuple(image.number_at(list(other.letter_sum(index).terms)[0]) for index in columns) for image in rows)
                self.same(linear_part(one, other, images, degree), wanted)
            for degree in NONE + (0, 41):
                self.fails("InvalidNumber", degree, linear_part, one, other, images, degree)
        self.same([linear_part(PLANE, BALL, (X, X * Y), degree) for degree in (2, 3, 5)], [(((1, 1),),), (), ((),)])
        self.same(linear_part(KNOT, KNOT, MAPS[17][2], 1), (((1, 1), (2, 1), (0, 1)), ((0, 1), (3, 1), (0, 1)), ((7, 2), (0, 1), (3, 1))))
        self.same(linear_part(EMPTY, BALL, (), 2), ())


class ClassMapTest(Case):
    def test_classes_that_are_led(self):
        # [16.2]
        for one, other, images in SOME:
            for degree in range(10):
                self.same(class_map(one, other, images, degree), slow_class_map(one, other, images, degree))
                for a_sum in class_basis(one, degree):
                    self.assertIs(other.is_closed(led(one, other, images, a_sum)), True)
                    step = one.step(Sum(one.letters, {word: 1 for word in slow_words(one.letters, degree - 1)}))
                    if step:
                        self.assertEqual(class_paper(other, led(one, other, images, step))[0], "step")
        self.same(class_map(FOUR, FREE, (Z * Z,), 8), 1)
        self.same([class_map(EMPTY, BALL, (), degree) for degree in (0, 2, 60)], [1, 0, 0])

    def test_bounds(self):
        for degree in NONE + (61,):
            self.fails("InvalidNumber", degree, class_map, BALL, BALL, (X, Y), degree)
        self.same(class_map(FREE, FREE, (Z,), 60), 1)
        # words of the degrees n - 1, n and n + 1, of the one and of the other
        small = Tower((2,), ({},))
        into, out = (FULL.letter_sum(0),), (small.letter_sum(0), zero(small), zero(small), zero(small))
        for degree, fits in ((21, True), (22, True), (23, False), (24, False), (60, False)):
            for call in ((small, FULL, into, degree), (FULL, small, out, degree)):
                if fits:
                    self.same(class_map(*call), 1 - degree % 2)
                else:
                    self.fails("TooMany", 150, class_map, *call)
        # more than 150 words of the degrees 4 to 6 of ten letters of the degree 1
        one = Tower((1,), ({},))
        for degree in range(12):
            for call in ((one, ROW, (zero(ROW),), degree), (ROW, one, (zero(one),) * 10, degree)):
                if 3 <= degree <= 7:
                    self.fails("TooMany", 150, class_map, *call)
                else:
                    self.same(class_map(*call), int(degree == 0))
        for degree, number in ((2, 45), (3, None), (4, None), (7, None), (8, 45), (9, 10), (10, 1), (11, 0)):
            if number is None:
                self.fails("TooMany", 150, class_map, ROW, ROW, identity(ROW), degree)
            else:
                self.same(class_map(ROW, ROW, identity(ROW), degree), number)
        # letters of the degree 1, mixed: the classes of all degrees are led one to one
        mixed = tuple(Sum(ROW.letters, {tuple(int(at == index) for at in range(10)): 1, tuple(int(at == (index + 1) % 10) for at in range(10)): 2})
                      for index in range(10))
        self.same([class_map(ROW, ROW, mixed, degree) for degree in (1, 2, 9, 10)], [10, 45, 10, 1])

    def test_isomorphisms_are_told_by_linear_parts(self):
        # [16.5]
        outcomes = set()
        for one, other, images in SOME:
            if 1 in one.letters + other.letters:
                continue
            for most in range(1, 7):
                rows = class_row(one, most + 1), class_row(other, most + 1)
                ranks = [class_map(one, other, images, degree) for degree in range(most + 2)]
                first = all(ranks[n] == rows[0][n] == rows[1][n] for n in range(1, most + 1)) and ranks[most + 1] == rows[0][most + 1]
                second = all(self.fits(one, other, images, n, True) for n in range(1, most + 1)) and self.fits(one, other, images, most + 1, False)
                self.assertEqual(first, second)
                outcomes.add(first)
        self.assertEqual(outcomes, {True, False})

    def fits(self, one, other, images, degree, is_square):
        table = linear_part(one, other, images, degree)
        columns = other.letters.count(degree)
        rank = slow_rank([[fraction(number) for number in row] for row in table]) if columns else 0
        return rank == len(table) and (not is_square or columns == len(table))

    def test_what_is_not_true(self):
        # [16.7]
        self.same(linear_part(FOUR, FREE, (Z * Z,), 4), ((),))
        self.same([class_map(FOUR, FREE, (Z * Z,), degree) for degree in (4, 8)], [1, 1])
        # one to one on all classes, and a row of the linear part that is not independent
        self.same([class_row(FOUR, 8)[degree] for degree in (4, 8)], [1, 1])
        closed = (Z, zero(FREE))
        self.assertTrue(all(FREE.is_closed(image) for image in closed))
        self.same(map_fault(PLANE, FREE, closed), ("step", 1))


def slow_class_map(one, other, images, degree):
    """The rank of what closed sums are led to, up to steps."""
    steps = slow_step_rows(other, degree - 1)
    rows = [slow_row(other, led(one, other, images, a_sum), degree) for a_sum in class_basis(one, degree)]
    if not slow_words(other.letters, degree):
        return 0
    return slow_rank(steps + rows) - slow_rank(steps)


if __name__ == "__main__":
    unittest.main()
