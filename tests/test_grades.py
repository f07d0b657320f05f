"""Stage 9, grades of plain towers: [9.1] to [9.6]."""

import unittest

from stepletters.built.built import flags, projective, spaces, special_group, sphere
from stepletters.classes.classes import class_basis, class_paper, class_row, is_class_paper
from stepletters.classes.weights import plain_weighting, signed_number, weight_count
from stepletters.plain import grades
from stepletters.plain.ends import does_end, top_class, top_degree
from stepletters.plain.grades import grade_count, grade_row, left_count, top_grade
from stepletters.towers.towers import Tower, beside, plain_tower
from stepletters.words.sums import Sum
from stepletters.words.words import word_count
from support import (BALL, BENT, BOTH, CROSS, EMPTY, FULL, HALF, HUGE, KNIT, KNOT, LONG, LONGER, OPEN, OVER, PLANE, ROW, TWIST,
                     Case, any_values, slow_block_number, slow_class_number, slow_even_rank, slow_series)

LAST = Tower((2, 3, 5), ({}, {(2, 0, 0): 1}, {(3, 0, 0): 1}))
EXTRA = Tower((2, 3, 3), ({}, {(2, 0, 0): 1}, {}))
LOOSE = Tower((1, 2, 3, 1), ({}, {}, {(0, 2, 0, 0): 1}, {}))
ENDING = [BALL, PLANE, BOTH, LONG, LAST, EXTRA, EMPTY, sphere(4), flags(3), spaces(2, 4), special_group(3), projective(2, 3),
          plain_tower(TWIST), plain_tower(HALF), plain_tower(KNIT), beside(BALL, LAST), special_group(4)]
ENDLESS = [OPEN, plain_tower(BENT), plain_tower(CROSS), Tower((2,), ({},)), Tower((2, 2, 5), ({}, {}, {(1, 2, 0): 1})),
           Tower((2, 3), ({}, {})), Tower((4, 2, 5, 3), ({}, {}, {(1, 1, 0, 0): 1}, {(0, 2, 0, 0): 1}))]
NOT_PLAIN = [HALF, BENT, TWIST, KNIT, CROSS, KNOT]
NONE = (None, True, False, -1, LONGER, -LONGER, HUGE, "3", (3,), [3], {}, BALL)
# N is 28; 136 even words at 30
PAST = Tower((2, 2, 2, 9, 11, 11), ({},) * 6)


def grade_of(tower):
    """How many odd letters a word has."""
    return lambda word: sum(exponent for letter, exponent in zip(tower.letters, word) if letter % 2)


def odd_number(tower):
    """How many odd letters a tower has."""
    return sum(letter % 2 for letter in tower.letters)


class CountsTest(Case):
    def test_constants(self):
        self.same(grades.MOST_GRADE, 24)

    def test_numbers(self):
        for tower in ENDING + ENDLESS + [LOOSE]:
            for degree in range(8):
                for grade in range(4):
                    found = grade_count(tower, grade, degree)
                    wanted = self.slow_number(tower, grade, degree)
                    self.same(found, wanted)

    def slow_number(self, tower, grade, degree):
        return slow_block_number(tower, degree, grade_of(tower), grade, grade + 1)

    def test_all_grades_of_a_degree(self):
        # [9.1]
        for tower in ENDING + ENDLESS + [LOOSE]:
            for degree in range(9):
                numbers = [grade_count(tower, grade, degree) for grade in range(25)]
                self.assertEqual(sum(numbers), slow_class_number(tower, degree))
                for a_sum in class_basis(tower, degree) if tower is not LONG else ():
                    parts = {}
                    for word, number in a_sum:
                        parts.setdefault(grade_of(tower)(word), {})[word] = number
                    for terms in parts.values():
                        self.assertIs(tower.is_closed(Sum(tower.letters, terms)), True)

    def test_products_have_the_added_grades(self):
        # [9.1]
        closed = Sum((2, 3, 5), {(0, 0, 1): 1, (1, 1, 0): -1})
        self.assertIs(LAST.is_closed(closed), True)
        both = beside(LAST, LAST)
        one = Sum(both.letters, {word + (0, 0, 0): number for word, number in closed})
        other = Sum(both.letters, {(0, 0, 0) + word: number for word, number in closed})
        product = one * other
        self.assertEqual({grade_of(both)(word) for word in product.terms}, {2})
        self.assertEqual(class_paper(both, product)[0], "test")
        self.assertGreater(grade_count(both, 2, 10), 0)

    def test_grade_0(self):
        # [9.2]
        for tower in ENDING + ENDLESS + [LOOSE]:
            for degree in range(13):
                evens, made = slow_even_rank(tower, degree)
                self.same(left_count(tower, degree), evens - made)
                self.same(grade_count(tower, 0, degree), evens - made)

    def test_edges(self):
        self.same([left_count(EMPTY, degree) for degree in (0, 1, 80)], [1, 0, 0])
        self.same([grade_count(EMPTY, grade, degree) for grade in (0, 24) for degree in (0, 80)], [1, 0, 0, 0])
        free = Tower((2,), ({},))
        self.same([left_count(free, degree) for degree in (79, 80)], [0, 1])
        self.same([grade_count(free, grade, 80) for grade in (0, 1, 24)], [1, 0, 0])
        self.same([grade_count(Tower((3,) * 5, ({},) * 5), grade, 3 * grade) for grade in range(7)], [1, 5, 10, 10, 5, 1, 0])
        self.same(grade_count(Tower((1,) * 24, ({},) * 24), 24, 24), 1)
        self.same([grade_count(LOOSE, grade, 2) for grade in range(4)], [1, 0, 1, 0])
        # an odd letter with the step 0 makes nothing, though it has very many even words beside it
        wide = Tower((4,) * 12 + (2, 3), ({},) * 13 + ({(0,) * 12 + (2, 0): 1},))
        self.fails("TooMany", 150, left_count, wide, 12)
        crowd = Tower((4,) * 12 + (1, 3), ({},) * 14)
        self.same([left_count(crowd, degree) for degree in (4, 77, 78, 79)], [12, 0, 0, 0])

    def test_weights_of_degree_and_grade(self):
        # [9.3]
        for tower in ENDING + ENDLESS:
            over = [letter + 1 for letter in tower.letters if letter % 2]
            under = [letter for letter in tower.letters if letter % 2 == 0]
            told = slow_series(over, under, 14)
            for weight in range(15):
                signed = 0
                for grade in range(min(odd_number(tower), weight) + 1):
                    number = grade_count(tower, grade, weight - grade)
                    signed += -number if grade % 2 else number
                    # it is the plain weighting
                    self.same(number, weight_count(tower, plain_weighting(tower.letters), weight - grade, weight))
                self.assertEqual(signed, told[weight])
                # the grade has the sign that the degree has: weight and degree are even or odd together but for it
                self.assertEqual((-1) ** weight * signed,
                                 signed_number(tower.letters, plain_weighting(tower.letters), weight))


class TowersThatEndTest(Case):
    def test_rows(self):
        # [9.4]
        for tower in ENDING:
            top, odd = top_degree(tower.letters), odd_number(tower)
            last = 2 * odd - tower.size
            self.same(top_grade(tower), last)
            rows = [grade_row(tower, grade) for grade in range(odd + 2)]
            for grade, row in enumerate(rows):
                self.same(len(row), top + 1)
                if grade > last:
                    self.same(row, (0,) * (top + 1))
                else:
                    self.same(row, rows[last - grade][::-1])
                for degree in range(min(top + 1, 9)):
                    self.same(row[degree], grade_count(tower, grade, degree))
            self.same(tuple(map(sum, zip(*rows))), class_row(tower, top))
            self.same(rows[last][top], 1)
            word = list(top_class(tower).terms)[0]
            self.same(grade_of(tower)(word), last)
            if last == 0:
                over = [letter + 1 for letter in tower.letters if letter % 2]
                under = [letter for letter in tower.letters if letter % 2 == 0]
                self.same(list(rows[0]), slow_series(over, under, top))
                self.assertEqual(sum(rows[0][1::2]), 0)
            self.same(grade_row(tower, 24), (0,) * (top + 1))

    def test_endless(self):
        # [9.5]
        for tower in ENDLESS:
            for grade in (0, 1, 24):
                self.fails("Refused", ("endless",), grade_row, tower, grade)
            self.fails("Refused", ("endless",), top_grade, tower)
            degrees = [degree for degree in range(24) if left_count(tower, degree) > 0]
            self.assertGreater(len([degree for degree in degrees if degree > 10]), 2)

    def test_great_degrees(self):
        tall = Tower((39, 39, 3), ({},) * 3)
        self.same((top_degree(tall.letters), top_grade(tall)), (81, 3))
        self.fails("TooMany", 80, grade_row, tall, 0)
        fits = Tower((39, 41 - 4, 4, 7), ({}, {}, {}, {(0, 0, 2, 0): 1}))
        self.same((top_degree(fits.letters), top_grade(fits)), (80, 2))
        row = grade_row(fits, 1)
        self.same((len(row), [at for at, number in enumerate(row) if number]), (81, [37, 39, 41, 43]))
        self.same(grade_row(fits, 2)[80], 1)


class ErrorsTest(Case):
    def test_errors(self):
        for value in any_values():
            if not isinstance(value, Tower):
                self.fails("InvalidTower", None, grade_count, value, None, None)
                self.fails("InvalidTower", None, left_count, value, None)
                self.fails("InvalidTower", None, grade_row, value, None)
                self.fails("InvalidTower", None, top_grade, value)
        for tower in (BALL, KNOT, OPEN, PAST):
            for value in NONE + (25,):
                self.fails("InvalidNumber", value, grade_count, tower, value, None)
                self.fails("InvalidNumber", value, grade_row, tower, value)
            for value in NONE + (81,):
                self.fails("InvalidNumber", value, grade_count, tower, 24, value)
                self.fails("InvalidNumber", value, left_count, tower, value)
        self.fails("InvalidNumber", 25, grade_count, BALL, 25, 81)

    def test_towers_that_are_not_plain(self):
        for tower in NOT_PLAIN:
            self.fails("InvalidOperation", None, grade_count, tower, 0, 80)
            self.fails("InvalidOperation", None, left_count, tower, 80)
            self.fails("InvalidOperation", None, grade_row, tower, 0)
            self.fails("InvalidOperation", None, top_grade, tower)
        # ahead of too many words and of classes that do not end
        bent = beside(OVER, HALF)
        self.fails("InvalidOperation", None, grade_count, bent, 0, 38)
        self.fails("InvalidOperation", None, left_count, bent, 38)
        self.fails("InvalidOperation", None, grade_row, bent, 0)
        self.fails("InvalidOperation", None, top_grade, beside(PAST, HALF))

    def test_letters_of_the_degree_1(self):
        # as of `does_end`
        self.fails("InvalidOperation", None, grade_row, LOOSE, 0)
        self.fails("InvalidOperation", None, top_grade, LOOSE)
        self.fails("InvalidOperation", None, grade_row, Tower((1,) + PAST.letters, ({},) * 7), 0)

    def test_too_many_even_words(self):
        for call, given in ((grade_row, (PAST, 0)), (top_grade, (PAST,))):
            self.fails("TooMany", 120, call, *given)
        edge = Tower((2, 2, 2, 9, 9, 11), ({}, {}, {}, {(5, 0, 0, 0, 0, 0): 1}, {(0, 5, 0, 0, 0, 0): 1},
                                         {(0, 0, 6, 0, 0, 0): 1}))
        self.same((top_degree(edge.letters), top_grade(edge), does_end(edge)), (26, 0, True))
        self.fails("TooMany", 150, grade_row, edge, 0)
        self.fails("Refused", ("endless",), grade_row, Tower(edge.letters, ({},) * 6), 0)

    def test_150_words_and_more(self):
        self.same([grade_count(FULL, 0, degree) for degree in (21, 22)], [0, 150])
        self.fails("TooMany", 150, grade_count, FULL, 0, 23)
        for degree in (37, 38, 39):
            self.fails("TooMany", 150, grade_count, OVER, 24, degree)
        self.same([grade_count(OVER, 0, degree) for degree in (35, 36)], [0, word_count(OVER.letters, 36)])
        # words of all grades count
        for degree in range(3, 8):
            self.fails("TooMany", 150, grade_count, ROW, 9, degree)
        self.same([grade_count(ROW, grade, degree) for grade, degree in ((2, 2), (8, 8), (1, 2))], [45, 45, 0])
        # for what is left even words of this degree alone count
        self.same([left_count(FULL, degree) for degree in (21, 22, 23)], [0, 150, 0])
        self.fails("TooMany", 150, left_count, FULL, 24)
        self.same([left_count(OVER, degree) for degree in (36, 37, 39)], [word_count(OVER.letters, 36), 0, 0])
        self.fails("TooMany", 150, left_count, OVER, 38)
        self.same([left_count(ROW, degree) for degree in (0, 5, 10)], [1, 0, 0])
        many = beside(BALL, Tower((3,) * 10, ({},) * 10))
        self.same([left_count(many, degree) for degree in (0, 2, 4, 80)], [1, 1, 0, 0])
        self.fails("TooMany", 150, grade_count, many, 0, 15)
        # anywhere from 0 to N + 1
        ten = Tower((3,) * 10, ({},) * 10)
        self.same((word_count(ten.letters, 15), word_count(ten.letters, 30), top_grade(ten)), (252, 1, 10))
        self.fails("TooMany", 150, grade_row, ten, 0)
        nine = Tower((3,) * 9, ({},) * 9)
        self.same(grade_row(nine, 4), tuple(126 if degree == 12 else 0 for degree in range(28)))
        squares = [{(2,) + (0,) * 7: 1}, {(0, 2) + (0,) * 6: 1}, {(0, 0, 2) + (0,) * 5: 1}]
        beyond = Tower((2, 2, 2, 3, 3, 3, 3, 3), ({},) * 3 + tuple(squares) + ({},) * 2)
        self.same([word_count(beyond.letters, degree) > 150 for degree in range(14)], [False] * 13 + [True])
        self.fails("TooMany", 150, grade_row, beyond, 2)
        # N is 16; 156 words at 18 do not count
        within = Tower((2, 2, 4, 3, 3, 3, 5, 7), ({}, {}, {}, {(2,) + (0,) * 7: 1}, {(0, 2) + (0,) * 6: 1}, {}, {},
                                                  {(0, 0, 2) + (0,) * 5: 1}))
        self.same([word_count(within.letters, degree) for degree in (17, 18)], [133, 156])
        self.same([grade_row(within, grade)[16] for grade in range(4)], [0, 0, 1, 0])

    def test_untrue_statements(self):
        # [9.6]
        self.same(grade_row(LAST, 1), (0, 0, 0, 0, 0, 1, 0, 1))
        for letter in (1, 2):
            self.assertIs(LAST.is_closed(LAST.letter_sum(letter)), False)
        self.same([sum(grade_row(EXTRA, grade)) for grade in range(3)], [2, 2, 0])
        self.same(class_row(HALF, 6)[5:], (0, 0))
        self.assertIs(is_class_paper(HALF, Sum(HALF.letters, {(1, 1, 0): 1}), ("step", HALF.letter_sum(2))), True)


if __name__ == "__main__":
    unittest.main()
