"""Stage 18, built towers: [18.1] to [18.8]."""

import itertools
import unittest
from math import comb

from stepletters.built.built import box_count, flags, projective, spaces, special_group, sphere, turn_count
from stepletters.classes.classes import class_row, is_class_basis
from stepletters.classes.rings import cup_length
from stepletters.plain.ends import does_end, top_degree, total_count
from stepletters.towers.towers import Tower
from stepletters.words.sums import Sum, power
from stepletters.words.words import word_count
from support import BALL, HUGE, LONGER, Case, slow_series, slow_words

NONE = (None, True, False, -1, LONGER, -LONGER, HUGE, "3", (3,), [3], {}, BALL)
# each with its top degree
BUILT = [(sphere(n), n) for n in range(1, 21)] + [(special_group(n), n * n - 1) for n in range(1, 9)]
BUILT += [(projective(d, n), n * d) for d in range(2, 13, 2) for n in range(1, 13) if d * (n + 1) - 1 <= 40]
BUILT += [(spaces(k, n), 2 * k * (n - k)) for k in range(1, 5) for n in range(2, 9) if 2 * k <= n]
BUILT += [(flags(n), n * (n - 1)) for n in range(1, 6)]


def boxes(few, many, most):
    """How many falling rows of at most `few` integers from 1 to `many` have the sums 0 to `most`."""
    found = [0] * (most + 1)
    for row in itertools.combinations_with_replacement(range(many + 1), few):
        if sum(row) <= most:
            found[sum(row)] += 1
    return found


def turns(many, most):
    """How many sequences of 1 to `many` have 0 to `most` pairs turned round."""
    found = [0] * (most + 1)
    for row in itertools.permutations(range(many)):
        number = sum(a > b for a, b in itertools.combinations(row, 2))
        if number <= most:
            found[number] += 1
    return found


class TowersTest(Case):
    def test_spheres(self):
        # [18.1]
        for number in range(1, 21):
            tower = sphere(number)
            if number % 2:
                self.assertEqual(tower, Tower((number,), ({},)))
            else:
                self.assertEqual(tower, Tower((number, 2 * number - 1), ({}, {(2, 0): 1})))
            wanted = tuple(int(degree in (0, number)) for degree in range(61))
            self.same(class_row(tower, 60), wanted)

    def test_projective(self):
        # [18.2]
        for degree in range(2, 13, 2):
            for number in range(1, 13):
                last = degree * (number + 1) - 1
                if last > 40:
                    self.fails("InvalidOperation", None, projective, degree, number)
                    continue
                tower = projective(degree, number)
                self.assertEqual(tower, Tower((degree, last), ({}, {(number + 1, 0): 1})))
                wanted = tuple(int(at % degree == 0 and at <= number * degree) for at in range(61))
                self.same(class_row(tower, 60), wanted)
                for at in range(number + 1):
                    self.assertTrue(is_class_basis(tower, at * degree, (power(tower.letter_sum(0), at),)))
        self.same([projective(2, 12).letters, projective(4, 9).letters, projective(8, 4).letters], [(2, 25), (4, 39), (8, 39)])
        for given in [(4, 10), (6, 6), (8, 5), (10, 4), (12, 3), (12, 12), (4, 12)]:
            self.fails("InvalidOperation", None, projective, *given)

    def test_groups(self):
        # [18.3]
        for number in range(1, 9):
            tower = special_group(number)
            letters = tuple(2 * at - 1 for at in range(2, number + 1))
            self.assertEqual(tower, Tower(letters, ({},) * (number - 1)))
            for degree in range(20):
                sums = tuple(Sum(letters, {word: 1}) for word in slow_words(letters, degree))
                self.assertTrue(is_class_basis(tower, degree, sums))

    def test_spaces(self):
        # [18.4]
        for few in range(1, 5):
            for number in range(2, 9):
                if 2 * few > number:
                    self.fails("InvalidOperation", None, spaces, few, number)
                    continue
                tower = spaces(few, number)
                letters = tuple(2 * at for at in range(1, few + 1))
                letters += tuple(2 * at - 1 for at in range(number - few + 1, number + 1))
                self.same(tower.letters, letters)
                sums = {0: Sum.one(letters)}
                for at in range(1, number + 1):
                    sums[at] = Sum(letters, {})
                    for index in range(1, min(few, at) + 1):
                        sums[at] = sums[at] + tower.letter_sum(index - 1) * sums[at - index] * (-1) ** (index - 1)
                self.assertEqual([step.terms for step in tower.steps[:few]], [{}] * few)
                for at, step in enumerate(tower.steps[few:]):
                    self.assertEqual(step, sums[number - few + 1 + at])
                most = 2 * few * (number - few) + 3
                words = max(word_count(letters, degree) for degree in range(most + 2))
                if most <= 60 and words <= 150:
                    row = class_row(tower, most)
                    self.assertEqual(sum(row[1::2]), 0)
                    self.same(row[::2], tuple(boxes(few, number - few, most // 2)))
        self.same(spaces(4, 8).letters, (2, 4, 6, 8, 9, 11, 13, 15))

    def test_flags(self):
        # [18.5]
        for number in range(1, 6):
            tower = flags(number)
            letters = (2,) * (number - 1) + tuple(2 * at - 1 for at in range(2, number + 1))
            self.same(tower.letters, letters)
            self.assertEqual([step.terms for step in tower.steps[:number - 1]], [{}] * (number - 1))
            for length, step in zip(range(2, number + 1), tower.steps[number - 1:]):
                wanted = {}
                for row in itertools.combinations_with_replacement(range(number - length + 1), length):
                    wanted[tuple(row.count(at) for at in range(len(letters)))] = (1, 1)
                self.assertEqual(step.terms, wanted)
            if number < 5:
                row = class_row(tower, number * (number - 1) + 3)
                self.assertEqual(sum(row[1::2]), 0)
                self.same(row[::2], tuple(turns(number, len(row[::2]) - 1)))
        self.same((flags(1).size, flags(5).letters), (0, (2, 2, 2, 2, 3, 5, 7, 9)))

    def test_all_end(self):
        # [18.6]
        for tower, top in BUILT:
            self.assertIs(tower.is_plain, True)
            if 1 in tower.letters:
                continue
            self.same(top_degree(tower.letters), top)
            if tower == flags(5):
                self.fails("TooMany", 120, does_end, tower)
                continue
            self.assertIs(does_end(tower), True)
            if top <= 40 and all(word_count(tower.letters, degree) <= 150 for degree in range(top + 2)):
                row = class_row(tower, top)
                self.assertEqual((row[top], total_count(tower)), (1, sum(row)))
        for tower in [spaces(k, n) for k in range(1, 4) for n in range(2 * k, 7) if n > 1] + [flags(n) for n in (1, 2, 3, 4)]:
            top = top_degree(tower.letters)
            over = [letter + 1 for letter in tower.letters if letter % 2]
            under = [letter for letter in tower.letters if letter % 2 == 0]
            self.assertEqual(list(class_row(tower, top)), slow_series(over, under, top))

    def test_equal_towers(self):
        # [18.7]
        for number in range(2, 9):
            self.assertEqual(spaces(1, number), projective(2, number - 1))
        self.assertEqual(flags(2), sphere(2))
        self.assertEqual(special_group(2), sphere(3))
        for degree in range(2, 13, 2):
            self.assertEqual(projective(degree, 1), sphere(degree))

    def test_errors(self):
        for call, least, most in ((sphere, 1, 20), (special_group, 1, 8), (flags, 1, 5)):
            call(least)
            call(most)
            for value in NONE + (least - 1, most + 1):
                self.fails("InvalidNumber", value, call, value)
        for value in NONE + (0, 1, 3, 11, 13, 14):
            self.fails("InvalidNumber", value, projective, value, None)
        for value in NONE + (0, 13):
            self.fails("InvalidNumber", value, projective, 2, value)
            self.fails("InvalidNumber", value, projective, 12, value)
        for value in NONE + (0, 5):
            self.fails("InvalidNumber", value, spaces, value, None)
        for value in NONE + (0, 1, 9):
            self.fails("InvalidNumber", value, spaces, 1, value)
            self.fails("InvalidNumber", value, spaces, 4, value)
        for given in ((2, 3), (3, 5), (4, 7), (4, 2), (2, 2)):
            self.fails("InvalidOperation", None, spaces, *given)
        self.same([spaces(2, 4).size, spaces(3, 6).size, spaces(1, 2).size], [4, 6, 2])


class NumbersTest(Case):
    def test_box_numbers(self):
        for few in range(6):
            for many in range(6):
                self.same([box_count(few, many, number) for number in range(30)], boxes(few, many, 29))
        self.same([box_count(40, 40, 0), box_count(40, 40, 1), box_count(40, 40, 1600), box_count(40, 40, 1599)], [1, 1, 1, 1])
        self.same([box_count(0, 40, 0), box_count(40, 0, 0), box_count(0, 0, 1), box_count(0, 0, 1600)], [1, 1, 0, 0])
        self.same(box_count(1, 40, 41), 0)

    def test_equal_box_numbers(self):
        # [18.7]
        for few, many in ((0, 7), (3, 4), (7, 9), (12, 5), (40, 3), (20, 20)):
            numbers = [box_count(few, many, number) for number in range(few * many + 1)]
            self.same(numbers, [box_count(many, few, number) for number in range(few * many + 1)])
            self.same(numbers, numbers[::-1])
            self.assertEqual(sum(numbers), comb(few + many, few))
        # [18.8]
        self.same([box_count(2, 2, number) for number in range(5)], [1, 1, 2, 1, 1])

    def test_turn_numbers(self):
        for many in range(8):
            self.same([turn_count(many, number) for number in range(30)], turns(many, 29))
        self.same([turn_count(40, 0), turn_count(40, 1), turn_count(40, 780), turn_count(40, 779)], [1, 39, 1, 39])
        self.same([turn_count(0, 0), turn_count(0, 1), turn_count(1, 0), turn_count(1, 780), turn_count(39, 780)], [1, 0, 1, 0, 0])

    def test_errors(self):
        for call, last in ((box_count, (1600,)), (turn_count, (780,))):
            sides = 2 if call is box_count else 1
            for at in range(sides):
                for value in NONE + (41,):
                    self.fails("InvalidNumber", value, call, *((40,) * at + (value,) + (None,) * (sides - at)))
            for value in NONE + (last[0] + 1,):
                self.fails("InvalidNumber", value, call, *((40,) * sides + (value,)))

    def test_untrue_statements(self):
        # [18.8]
        other = Tower((3, 2, 3), ({}, {}, {(0, 2, 0): 1}))
        self.assertNotEqual(other, sphere(2))
        like = Tower((2, 3, 2, 2), ({}, {(2, 0, 0, 0): 1}, {}, {}))
        self.assertNotEqual(class_row(like, 4), class_row(sphere(2), 4))
        turned = Tower((4, 3, 7), ({}, {(0, 0, 0): 0}, {(2, 0, 0): 5}))
        self.assertNotEqual(turned, sphere(4))
        scaled = Tower((4, 7), ({}, {(2, 0): 5}))
        self.assertNotEqual(scaled, sphere(4))
        self.assertEqual(class_row(scaled, 12), class_row(sphere(4), 12))
        self.assertEqual((cup_length(spaces(2, 4), 8), cup_length(spaces(1, 4), 8)), (4, 3))


if __name__ == "__main__":
    unittest.main()
