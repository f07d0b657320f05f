"""Stage 11, lengths: [11.1] to [11.6]."""

import itertools
import unittest

from stepletters.built.built import flags, projective, spaces, special_group, sphere
from stepletters.classes.classes import class_basis, class_paper
from stepletters.classes.weights import is_weighting, weight_count
from stepletters.plain.ends import does_end, top_class, top_degree
from stepletters.towers import lengths
from stepletters.towers.lengths import (is_one_length, length_count, length_part, length_row, length_weights, step_length,
                                        top_length)
from stepletters.towers.towers import Tower, beside, quadratic_tower
from stepletters.words.sums import Sum, power
from support import (BALL, BENT, BOTH, CROSS, EMPTY, FULL, HALF, HUGE, KNIT, KNOT, LONG, LONGER, OPEN, OVER, PLANE, ROW, SIXTY,
                     TWIST, Case, any_values, slow_block_number, slow_class_number, slow_words)

CUBES = Tower((2, 2, 5, 5), ({}, {}, {(3, 0, 0, 0): 1, (1, 2, 0, 0): -1}, {(0, 3, 0, 0): (2, 7)}))
TRIPLE = Tower((3, 3, 5, 10), ({}, {}, {}, {(1, 1, 1, 0): 4}))
# each with its step length; those below have steps of unlike lengths
EVEN = [(BALL, 2), (PLANE, 3), (KNOT, 2), (HALF, 2), (BENT, 2), (OPEN, 2), (BOTH, 2), (LONG, 2), (CUBES, 3), (TRIPLE, 3),
        (EMPTY, 0), (Tower((3,), ({},)), 0), (Tower((2, 3, 4), ({},) * 3), 0), (projective(2, 3), 4), (sphere(4), 2)]
UNLIKE = [TWIST, CROSS, KNIT, beside(BALL, PLANE), Tower((2, 2, 3, 5), ({}, {}, {(2, 0, 0, 0): 1}, {(0, 3, 0, 0): 1})),
          Tower((2, 4, 7), ({}, {}, {(0, 2, 0): 1, (4, 0, 0): 1})), flags(3), spaces(2, 4)]
ENDING = [BALL, PLANE, HALF, BOTH, LONG, CUBES, EMPTY, projective(2, 3), sphere(3), sphere(6), special_group(4),
          beside(BALL, HALF), beside(PLANE, projective(4, 2)), beside(PLANE, special_group(3))]
NONE = (None, True, False, -1, LONGER, -LONGER, HUGE, "3", (3,), [3], {}, BALL)


class StepLengthTest(Case):
    def test_constants(self):
        self.same(lengths.MAX_LENGTH, 80)

    def test_step_lengths(self):
        # [11.1]
        for tower, wanted in EVEN:
            self.same(step_length(tower), wanted)
        for tower in UNLIKE:
            self.same(step_length(tower), None)
        self.same(step_length(Tower((2, 39), ({}, {(20, 0): 1}))), 20)
        for tower, size in EVEN:
            for degree in range(9):
                for word in slow_words(tower.letters, degree):
                    for other in tower.step(Sum(tower.letters, {word: 1})).terms:
                        self.assertEqual(sum(other), sum(word) + size - 1)

    def test_length_parts(self):
        some = Sum((2, 3), {(2, 0): (1, 2), (0, 1): -1, (0, 0): 3, (1, 1): 5, (4, 0): 7})
        told = {0: {(0, 0): (3, 1)}, 1: {(0, 1): (-1, 1)}, 2: {(1, 1): (5, 1), (2, 0): (1, 2)}, 3: {}, 4: {(4, 0): (7, 1)},
                10 ** 60 - 1: {}}
        total = some - some
        for length, terms in told.items():
            part = length_part(some, length)
            self.same((part.letters, part.terms), ((2, 3), terms))
            total = total + part
        self.assertEqual(total, some)
        self.same(length_part(Sum((), {(): SIXTY}), 0).terms, {(): (SIXTY, 1)})
        long = some * SIXTY * SIXTY
        self.same(length_part(long, 1).terms, {(0, 1): (-SIXTY * SIXTY, 1)})
        self.same(length_part(Sum((2,), {}), 0).terms, {})

    def test_errors_of_parts(self):
        for value in any_values():
            if not isinstance(value, Sum):
                self.fails("InvalidSum", None, length_part, value, None)
            if not isinstance(value, Tower):
                self.fails("InvalidTower", None, step_length, value)
        for value in NONE:
            self.fails("InvalidNumber", value, length_part, Sum((2, 3), {}), value)

    def test_one_length(self):
        x, y, one = BALL.letter_sum(0), BALL.letter_sum(1), Sum.one((2, 3))
        for value, wanted in [(x, True), (y, True), (x + y, True), (one, True), (x - x, True), (x * x + x * y * 3, True),
                              (x + one, False), (x * x + x, False), (x * x * y + x * x, False), (x * SIXTY * SIXTY, True)]:
            self.assertIs(is_one_length(BALL, value), wanted)
            self.assertIs(is_one_length(OPEN, value), False)
            self.assertIs(is_one_length(BALL, value.terms), False)
        for value in any_values():
            self.assertIs(is_one_length(BALL, value), isinstance(value, Sum) and value.letters == (2, 3))
            self.assertIs(is_one_length(EMPTY, value), isinstance(value, Sum) and value.letters == ())
            if not isinstance(value, Tower):
                self.fails("InvalidTower", None, is_one_length, value, None)
        # the length is that of the words, whatever the tower
        self.assertIs(is_one_length(TWIST, TWIST.step(TWIST.letter_sum(4))), False)
        self.assertIs(is_one_length(TWIST, TWIST.letter_sum(0) * 3 + TWIST.letter_sum(4)), True)


class CountsTest(Case):
    def test_numbers(self):
        for tower, size in EVEN:
            for degree in range(8):
                row = length_row(tower, degree)
                self.same(len(row), degree + 1)
                for length in range(degree + 3):
                    wanted = slow_block_number(tower, degree, sum, length, length + 1 - size)
                    self.same(length_count(tower, degree, length), wanted)
                    if length <= degree:
                        self.same(row[length], wanted)
                self.same(length_count(tower, degree, 80), 0)

    def test_all_lengths_of_a_degree(self):
        # [11.2]
        for tower, _ in EVEN:
            for degree in range(9):
                self.assertEqual(sum(length_row(tower, degree)), slow_class_number(tower, degree))
                if tower is not LONG:
                    for a_sum in class_basis(tower, degree):
                        step = tower.step(Sum(tower.letters, {word: 1 for word in slow_words(tower.letters, degree - 1)}))
                        parts = [length_part(a_sum + step, length) for length in range(degree + 1)]
                        self.assertTrue(all(tower.is_closed(part) for part in parts))
                        self.assertIn("test", [class_paper(tower, part)[0] for part in parts])
                        for length in range(degree + 1):
                            if step:
                                self.assertEqual(class_paper(tower, length_part(step, length))[0], "step")

    def test_edges(self):
        self.same([length_row(EMPTY, 0), length_row(EMPTY, 2)], [(1,), (0, 0, 0)])
        self.same([length_count(EMPTY, degree, length) for degree in (0, 60) for length in (0, 1, 80)], [1, 0, 0, 0, 0, 0])
        free = Tower((2,), ({},))
        self.same([length_count(free, 60, length) for length in (29, 30, 31, 80)], [0, 1, 0, 0])
        self.same(length_row(free, 60), (0,) * 30 + (1,) + (0,) * 30)
        ones = Tower((1, 1), ({}, {}))
        self.same([length_row(ones, degree) for degree in range(4)], [(1,), (0, 2), (0, 0, 1), (0, 0, 0, 0)])
        self.same(length_row(PLANE, 4), (0, 0, 1, 0, 0))

    def test_as_weights_tell(self):
        # [11.3]
        tried = 0
        for tower, size in EVEN:
            told = tuple((size - 1) * letter - 1 for letter in tower.letters)
            if size < 2 or not all(1 <= integer <= 40 for integer in told):
                self.fails("InvalidOperation", None, length_weights, tower)
                continue
            tried += 1
            self.same(length_weights(tower), told)
            self.assertIs(is_weighting(tower, told), True)
            for degree in range(9):
                for length in range(degree + 1):
                    weight = (size - 1) * degree - length
                    if 0 <= weight <= 60:
                        self.same(length_count(tower, degree, length), weight_count(tower, told, degree, weight))
        self.assertGreater(tried, 8)

    def test_products_have_the_added_lengths(self):
        # [11.3]
        for tower, _ in EVEN[:9]:
            if tower is LONG:
                continue
            for one, other in itertools.product(range(5), repeat=2):
                for a, b in itertools.product(class_basis(tower, one), class_basis(tower, other)):
                    for size, more in itertools.product(range(one + 1), range(other + 1)):
                        product = length_part(a, size) * length_part(b, more)
                        self.assertEqual(length_part(product, size + more), product)

    def test_weightings(self):
        def tower(letters, index, word):
            return Tower(letters, tuple({word: 1} if at == index else {} for at in range(len(letters))))

        # the integers 39 and 41, of letters of the degrees 40 / (l - 1) and 42 / (l - 1); 40 is none of them
        for letters, index, word, wanted in [
            ((2, 3, 40), 1, (2, 0, 0), (1, 2, 39)), ((2, 5, 20), 1, (3, 0, 0), (3, 9, 39)),
            ((2, 5, 21), 1, (3, 0, 0), None), ((2, 7, 13), 1, (4, 0, 0), (5, 20, 38)), ((2, 7, 14), 1, (4, 0, 0), None),
            ((2, 9, 10), 1, (5, 0, 0), (7, 35, 39)), ((2, 11, 6), 1, (6, 0, 0), None), ((2, 13, 6), 1, (7, 0, 0), None),
            ((1, 1, 1), 2, (1, 1, 0), None), ((1, 1, 1, 2), 3, (1, 1, 1, 0), (1, 1, 1, 3)),
            ((3, 3, 3, 8, 20), 3, (1, 1, 1, 0, 0), (5, 5, 5, 15, 39)), ((2, 39), 1, (20, 0), None),
            ((4, 39), 1, (10, 0), None), ((20, 39), 1, (2, 0), (19, 38)),
        ]:
            if wanted is None:
                self.fails("InvalidOperation", None, length_weights, tower(letters, index, word))
            else:
                self.same(length_weights(tower(letters, index, word)), wanted)
        for one in [EMPTY, Tower((3,), ({},)), KNOT] + UNLIKE:
            self.fails("InvalidOperation", None, length_weights, one)

    def test_errors(self):
        for value in any_values():
            if not isinstance(value, Tower):
                self.fails("InvalidTower", None, length_count, value, None, None)
                self.fails("InvalidTower", None, length_row, value, None)
                self.fails("InvalidTower", None, length_weights, value)
                self.fails("InvalidTower", None, top_length, value)
        for tower in (BALL, TWIST, OVER):
            for value in NONE + (61,):
                self.fails("InvalidNumber", value, length_count, tower, value, None)
                self.fails("InvalidNumber", value, length_row, tower, value)
            for value in NONE + (81,):
                self.fails("InvalidNumber", value, length_count, tower, 60, value)
        self.fails("InvalidNumber", 61, length_count, BALL, 61, 81)
        for tower in UNLIKE:
            self.fails("InvalidOperation", None, length_count, tower, 0, 0)
            self.fails("InvalidOperation", None, length_row, tower, 0)
        # ahead of too many words
        self.fails("InvalidOperation", None, length_count, beside(OVER, UNLIKE[3]), 38, 80)
        self.fails("InvalidOperation", None, length_row, beside(OVER, UNLIKE[3]), 38)

    def test_150_words_and_more(self):
        self.same([sum(length_row(FULL, degree)) for degree in (21, 22)], [0, 150])
        self.same([length_count(FULL, 22, length) for length in (11, 9, 7, 5, 12)], [78, 45, 21, 6, 0])
        self.fails("TooMany", 150, length_row, FULL, 23)
        self.fails("TooMany", 150, length_count, FULL, 23, 0)
        for degree in (37, 38, 39):
            self.fails("TooMany", 150, length_row, OVER, degree)
            self.fails("TooMany", 150, length_count, OVER, degree, 80)
        # words of all lengths count
        for degree in range(3, 8):
            self.fails("TooMany", 150, length_count, ROW, degree, 0)
        self.same([length_count(ROW, degree, 2) for degree in (2, 8)], [45, 0])


class TopLengthTest(Case):
    def test_top_lengths(self):
        # [11.4], [11.5]
        for tower in ENDING:
            if step_length(tower) is None:
                self.fails("InvalidOperation", None, top_length, tower)
                continue
            size, top = step_length(tower), top_degree(tower.letters)
            odd = sum(letter % 2 for letter in tower.letters)
            wanted = odd + (tower.size - odd) * (size - 2) if size else odd
            self.same(top_length(tower), wanted)
            if size == 2:
                self.assertEqual(wanted, odd)
            self.same(length_row(tower, top), tuple(int(length == wanted) for length in range(top + 1)))
            a_sum = top_class(tower)
            self.assertEqual(class_paper(tower, length_part(a_sum, wanted))[0], "test")
            for factors in range(wanted + 1, wanted + 3):
                for letter in range(tower.size):
                    product = power(tower.letter_sum(letter), factors)
                    if tower.is_closed(product) and product:
                        self.assertEqual(class_paper(tower, product)[0], "step")

    def test_errors(self):
        for tower in UNLIKE:
            self.fails("InvalidOperation", None, top_length, tower)
        for tower in (KNOT, Tower((1,), ({},)), Tower((1, 2), ({}, {})), beside(KNOT, BALL)):
            self.fails("InvalidOperation", None, top_length, tower)
        for tower in (OPEN, BENT, Tower((2,), ({},)), Tower((2, 3), ({}, {})), FULL):
            self.fails("Refused", ("endless",), top_length, tower)
        past = Tower((2, 2, 2, 9, 11, 11), ({},) * 6)
        self.fails("TooMany", 120, top_length, past)
        # a letter of the degree 1, and no step length, are told ahead of that
        self.fails("InvalidOperation", None, top_length, Tower((1,) + past.letters, ({},) * 7))
        unlike = Tower(past.letters, ({}, {}, {}, {(5, 0, 0, 0, 0, 0): 1}, {(6, 0, 0, 0, 0, 0): 1}, {}))
        self.fails("InvalidOperation", None, top_length, unlike)
        edge = Tower((2, 2, 2, 9, 9, 11), ({}, {}, {}, {(5, 0, 0, 0, 0, 0): 1}, {(0, 5, 0, 0, 0, 0): 1}, {}))
        self.fails("Refused", ("endless",), top_length, edge)

    def test_parts_of_steps(self):
        # [11.5]
        for tower in UNLIKE:
            self.assertIn(step_length(quadratic_tower(tower)), (0, 2))
        # the words of the length 3 alone are no steps of a tower here
        mixed = Tower((3, 2, 5, 4, 7), ({}, {}, {(0, 3, 0, 0, 0): 1}, {(1, 1, 0, 0, 0): 1},
                                        {(0, 2, 0, 1, 0): 1, (1, 0, 1, 0, 0): 1}))
        self.same(step_length(mixed), None)

    def test_untrue_statements(self):
        # [11.6]
        self.same([(does_end(tower), step_length(tower)) for tower in (TWIST, KNIT)], [(True, None)] * 2)
        one = Tower((2, 2, 3, 3), ({}, {}, {(2, 0, 0, 0): 1}, {(0, 2, 0, 0): 1}))
        other = Tower((2, 2, 3, 3), ({}, {}, {(2, 0, 0, 0): 1}, {(2, 0, 0, 0): 1}))
        self.same(step_length(one), step_length(other))
        self.assertNotEqual(length_row(one, 4), length_row(other, 4))


if __name__ == "__main__":
    unittest.main()
