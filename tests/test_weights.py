"""Stage 7, weights: [7.1] to [7.6]."""

import itertools
import unittest

from stepletters.built.built import flags, spaces, special_group
from stepletters.classes import weights
from stepletters.classes.classes import class_basis, class_paper
from stepletters.classes.weights import (is_weighting, plain_weighting, signed_number, weight_count, weight_row,
                                         weight_words)
from stepletters.plain.ends import top_degree
from stepletters.towers.towers import Tower, beside, plain_tower
from stepletters.words.sums import Sum
from stepletters.words.words import word_count
from support import (BALL, BENT, BOTH, CROSS, EMPTY, FULL, HALF, HUGE, KNIT, KNOT, LONGER, OPEN, OVER, PLANE, ROW, SAMPLES,
                     TWIST, Case, any_values, slow_block_number, slow_class_number, slow_series, slow_words)

# Weightings of towers, found by hand.
WEIGHTED = [
    (BALL, (1, 2)), (BALL, (7, 14)), (PLANE, (1, 3)), (PLANE, (2, 6)), (KNOT, (1, 1, 2)), (KNOT, (1, 4, 5)),
    (HALF, (3, 1, 4)), (BENT, (1, 1, 2, 2, 3)), (BENT, (2, 2, 4, 4, 6)), (OPEN, (3, 3, 6)), (OPEN, (1, 1, 2)),
    (BOTH, (1, 2, 2, 4)), (BOTH, (2, 1, 4, 2)), (TWIST, (2, 4, 3, 3, 6)), (EMPTY, ()),
    (Tower((2, 3, 5), ({},) * 3), (5, 1, 2)), (flags(3), (1, 1, 2, 3)), (spaces(2, 4), (1, 2, 3, 4)),
]
NONE = (None, True, False, -1, LONGER, -LONGER, HUGE, "3", (3,), [3], (1, 2))


def weigh(weighting, word):
    """The weight of a word."""
    return sum(integer * exponent for integer, exponent in zip(weighting, word))


def slow_weight_words(letters, weighting, degree, weight):
    """All words of a degree and a weight, by trying."""
    return [word for word in slow_words(letters, degree) if weigh(weighting, word) == weight]


class WeightingsTest(Case):
    def test_constants(self):
        self.same((weights.MOST_WEIGHT, weights.MAX_WEIGHTED, weights.MAX_WORDS_TOLD), (40, 60, 150))

    def test_weightings(self):
        for tower, weighting in WEIGHTED:
            self.assertIs(is_weighting(tower, weighting), True)
            for at in range(len(weighting)):
                for more in (-1, 1):
                    moved = weighting[:at] + (weighting[at] + more,) + weighting[at + 1:]
                    wanted = all(weigh(moved, word) == moved[index] for index, step in enumerate(tower.steps)
                                 for word in step.terms) and min(moved) > 0
                    self.assertIs(is_weighting(tower, moved), wanted)

    def test_bounds(self):
        free = Tower((2, 3), ({}, {}))
        for one, other in itertools.product((-1, 0, 1, 2, 39, 40, 41, HUGE, True, None, "1", (1, 1)), repeat=2):
            wanted = all(type(number) is int and 1 <= number <= 40 for number in (one, other))
            self.assertIs(is_weighting(free, (one, other)), wanted)
        for value in ([1, 1], (1,), (1, 1, 1), (), {0: 1, 1: 1}):
            self.assertIs(is_weighting(free, value), False)
        self.assertIs(is_weighting(EMPTY, ()), True)
        self.assertIs(is_weighting(BALL, (20, 40)), True)
        self.assertIs(is_weighting(BALL, (21, 42)), False)
        # each word of each step counts
        self.assertIs(is_weighting(OPEN, (1, 2, 3)), False)
        self.assertIs(is_weighting(OPEN, (1, 1, 3)), False)
        self.assertIs(is_weighting(TWIST, (1, 2, 1, 2, 3)), True)
        self.assertIs(is_weighting(TWIST, (1, 2, 1, 1, 3)), False)

    def test_any_value_is_judged(self):
        for value in any_values():
            self.assertIs(is_weighting(BALL, value), repr(value) in ("(1, 2)", "(2, 4)"))
            self.assertIs(is_weighting(EMPTY, value), isinstance(value, tuple) and value == ())
            if not isinstance(value, Tower):
                self.fails("InvalidTower", None, is_weighting, value, None)

    def test_steps_keep_weights(self):
        # [7.1]
        for tower, weighting in WEIGHTED:
            for degree in range(9):
                for word in slow_words(tower.letters, degree):
                    for other in tower.step(Sum(tower.letters, {word: 1})).terms:
                        self.assertEqual(weigh(weighting, other), weigh(weighting, word))

    def test_plain_weightings(self):
        # [7.4]
        self.same(plain_weighting((2, 3, 40, 39, 1)), (2, 4, 40, 40, 2))
        self.same(plain_weighting(()), ())
        for tower in SAMPLES + [CROSS, KNIT, flags(4), spaces(3, 6)]:
            told = plain_weighting(tower.letters)
            self.assertIs(is_weighting(plain_tower(tower), told), True)
            for degree in range(9):
                for word in slow_words(tower.letters, degree):
                    odds = sum(exponent for letter, exponent in zip(tower.letters, word) if letter % 2)
                    self.assertEqual(weigh(told, word), degree + odds)
        for value in any_values():
            if repr(value) not in ("()", "(1,)", "(1, 2)", "(2, 4)", "(1, 2, 3)"):
                self.fails("InvalidLetters", None, plain_weighting, value)
        for letters in ((0,), (41,), (True,), (2,) * 25, [2]):
            self.fails("InvalidLetters", None, plain_weighting, letters)
        self.same(plain_weighting((3,) * 24), (4,) * 24)
        free = Tower((2, 3, 4), ({},) * 3)
        for weighting in itertools.product((1, 7, 40), repeat=3):
            self.assertIs(is_weighting(free, weighting), True)


class WordsTest(Case):
    def test_numbers(self):
        for letters, weighting in [((2, 3), (1, 2)), ((2, 2, 3), (1, 1, 2)), ((1, 1, 1), (1, 4, 5)), ((), ()),
                                   ((2, 3, 3, 4), (3, 1, 1, 2)), ((5, 2, 1, 4, 1), (1, 2, 1, 3, 2)), ((4,), (2,))]:
            for degree in range(13):
                for weight in range(13):
                    wanted = len(slow_weight_words(letters, weighting, degree, weight))
                    self.same(weight_words(letters, weighting, degree, weight), wanted)

    def test_edges(self):
        self.same([weight_words((), (), degree, weight) for degree in (0, 1, 80) for weight in (0, 1, 60)],
                  [1] + [0] * 8)
        self.same([weight_words((2,), (1,), 80, weight) for weight in (39, 40, 41, 60)], [0, 1, 0, 0])
        self.same([weight_words((1, 2), (40, 1), degree, 60) for degree in (40, 41, 80)], [0, 1, 0])
        self.same(weight_words((2,) * 24, (2,) * 24, 60, 60), word_count((2,) * 24, 60))
        self.same(weight_words((40,) * 24, (40,) * 24, 80, 60), 0)
        self.same(weight_words((40,) * 24, (30,) * 24, 80, 60), 300)
        # all weights together are all words
        letters = (2, 2, 3, 5)
        for degree in range(20):
            numbers = [weight_words(letters, (1, 2, 1, 3), degree, weight) for weight in range(61)]
            self.assertEqual(sum(numbers), word_count(letters, degree))

    def test_errors(self):
        for value in [None, 3, [2], (0,), (True,), (41,), (2,) * 25, "a", {}, BALL]:
            self.fails("InvalidLetters", None, weight_words, value, None, None, None)
            self.fails("InvalidLetters", None, signed_number, value, None, None)
        for value in NONE[:-1] + ((1,), (1, 0), (0, 1), (1, 41), (1, True), [1, 1], (1, 1, 1), (), (1, None)):
            self.fails("InvalidOperation", None, weight_words, (2, 3), value, None, None)
            self.fails("InvalidOperation", None, signed_number, (2, 3), value, None)
        for value in NONE + (81,):
            self.fails("InvalidNumber", value, weight_words, (2, 3), (1, 1), value, None)
        for value in NONE + (61,):
            self.fails("InvalidNumber", value, weight_words, (2, 3), (1, 1), 80, value)
            self.fails("InvalidNumber", value, signed_number, (2, 3), (1, 1), value)
        self.fails("InvalidNumber", 81, weight_words, (2, 3), (1, 1), 81, 61)


class ClassesTest(Case):
    def test_numbers(self):
        for tower, weighting in WEIGHTED:
            for degree in range(8):
                for weight in range(13):
                    wanted = slow_block_number(tower, degree, lambda word: weigh(weighting, word), weight, weight)
                    self.same(weight_count(tower, weighting, degree, weight), wanted)

    def test_all_weights_of_a_degree(self):
        # [7.2]
        for tower, weighting in WEIGHTED:
            for degree in range(7):
                numbers = [weight_count(tower, weighting, degree, weight) for weight in range(61)]
                self.assertEqual(sum(numbers), slow_class_number(tower, degree))
                for a_sum in class_basis(tower, degree):
                    step = tower.step(Sum(tower.letters, {word: 1 for word in slow_words(tower.letters, degree - 1)}))
                    parts = {}
                    for word, number in a_sum + step:
                        parts.setdefault(weigh(weighting, word), {})[word] = number
                    parts = [Sum(tower.letters, terms) for terms in parts.values()]
                    self.assertTrue(all(tower.is_closed(part) for part in parts))
                    self.assertIn("test", [class_paper(tower, part)[0] for part in parts])

    def test_rows(self):
        for tower, weighting in WEIGHTED:
            for weight in range(15):
                row = weight_row(tower, weighting, weight)
                self.assertIs(type(row), dict)
                self.same(list(row), sorted(row))
                self.assertGreater(min(row.values(), default=1), 0)
                # a letter has at least half of the degree for each of its weight, and at most so much
                for degree in range(9):
                    self.same(row.get(degree, 0), weight_count(tower, weighting, degree, weight))

    def test_told_rows(self):
        self.same(weight_row(EMPTY, (), 0), {0: 1})
        self.same([weight_row(EMPTY, (), weight) for weight in (1, 60)], [{}, {}])
        self.same(weight_row(Tower((2,), ({},)), (1,), 60), {120: 1})
        self.same(weight_row(Tower((40,), ({},)), (1,), 60), {2400: 1})
        self.same(weight_row(Tower((40, 39), ({}, {})), (1, 1), 60), {2399: 1, 2400: 1})
        self.same(weight_row(Tower((2,), ({},)), (40,), 40), {2: 1})
        self.same(weight_row(Tower((2, 4, 3), ({},) * 3), (1, 1, 1), 2), {4: 1, 5: 1, 6: 1, 7: 1, 8: 1})
        # degrees above 80 count as others do
        far = Tower((40, 39, 39), ({}, {}, {}))
        self.same(weight_row(far, (20, 20, 20), 60), {118: 1, 119: 2, 120: 1})
        cut = Tower((20, 39), ({}, {(2, 0): 1}))
        self.same([weight_row(cut, (1, 2), weight) for weight in (0, 1, 2, 3, 60)], [{0: 1}, {20: 1}, {}, {}, {}])

    def test_long_rows(self):
        tower = Tower((2, 38, 40), ({},) * 3)
        row = weight_row(tower, (1, 1, 1), 60)
        self.same(sum(row.values()), 61 * 62 // 2)
        self.same((min(row), max(row), row[120], row[2400]), (120, 2400, 1, 1))

    def test_signed_numbers(self):
        # [7.3]
        for tower, weighting in WEIGHTED:
            over = [integer for letter, integer in zip(tower.letters, weighting) if letter % 2]
            under = [integer for letter, integer in zip(tower.letters, weighting) if letter % 2 == 0]
            told = slow_series(over, under, 60)
            for weight in range(61):
                self.same(signed_number(tower.letters, weighting, weight), told[weight])
            for weight in range(15):
                row = weight_row(tower, weighting, weight)
                signed = sum(-number if degree % 2 else number for degree, number in row.items())
                self.assertEqual(signed, told[weight])
        self.same([signed_number((), (), weight) for weight in (0, 1, 60)], [1, 0, 0])
        self.same([signed_number((2, 2), (1, 1), weight) for weight in (0, 1, 59, 60)], [1, 2, 60, 61])
        self.same([signed_number((1, 3), (1, 2), weight) for weight in range(5)], [1, -1, -1, 1, 0])

    def test_towers_that_end(self):
        # [7.5]
        for tower, weighting in [(BALL, (1, 2)), (PLANE, (1, 3)), (HALF, (1, 1, 2)), (HALF, (3, 1, 4)), (BOTH, (1, 2, 2, 4)),
                                 (TWIST, (2, 4, 3, 3, 6)), (flags(3), (1, 1, 2, 3)), (spaces(2, 4), (1, 2, 3, 4)),
                                 (EMPTY, ()), (beside(BALL, HALF), (2, 4, 1, 1, 2)), (special_group(3), (1, 5)),
                                 (Tower((2, 3, 3), ({}, {(2, 0, 0): 1}, {})), (2, 4, 4))]:
            top = top_degree(tower.letters)
            last = sum(integer if letter % 2 else -integer for letter, integer in zip(tower.letters, weighting))
            for weight in range(last + 2):
                self.same(weight_count(tower, weighting, top, weight), int(weight == last))
                for degree in range(top + 1):
                    other = weight_count(tower, weighting, top - degree, last - weight) if weight <= last else 0
                    self.same(weight_count(tower, weighting, degree, weight), other)

    def test_untrue_statements(self):
        # [7.6]
        bent = Tower((2, 3, 5), ({}, {(2, 0, 0): 1}, {(3, 0, 0): 1}))
        self.assertTrue(is_weighting(bent, (1, 2, 3)))
        none = Tower((2, 2, 3), ({}, {}, {(2, 0, 0): 1, (1, 1, 0): 1, (0, 2, 0): 1}))
        self.assertFalse(is_weighting(none, (1, 2, 2)))
        mixed = Tower((3, 3, 2, 5, 7), ({}, {}, {}, {(1, 1, 0, 0, 0): 1, (0, 0, 3, 0, 0): 1}, {(0, 0, 4, 0, 0): 1}))
        self.assertFalse(is_weighting(mixed, plain_weighting(mixed.letters)))
        free = Tower((3, 2), ({}, {}))
        self.same((signed_number((3, 2), (1, 1), 1), weight_row(free, (1, 1), 1)), (0, {2: 1, 3: 1}))
        self.same([weight_count(BOTH, (1, 2, 2, 4), 2, weight) for weight in (1, 2)], [1, 1])


class ErrorsTest(Case):
    def test_errors(self):
        for value in any_values():
            if not isinstance(value, Tower):
                self.fails("InvalidTower", None, weight_count, value, None, None, None)
                self.fails("InvalidTower", None, weight_row, value, None, None)
            if repr(value) not in ("(1, 2)", "(2, 4)"):
                self.fails("InvalidOperation", None, weight_count, BALL, value, None, None)
                self.fails("InvalidOperation", None, weight_row, BALL, value, None)
        for value in ((1, 1), (2, 2), (21, 42), (0, 0)):
            self.fails("InvalidOperation", None, weight_count, BALL, value, 0, 0)
            self.fails("InvalidOperation", None, weight_row, BALL, value, 0)
        for value in NONE + (81,):
            self.fails("InvalidNumber", value, weight_count, BALL, (1, 2), value, None)
            self.fails("InvalidNumber", value, weight_count, OVER, (1, 1, 3, 5), value, 61)
        for value in NONE + (61,):
            self.fails("InvalidNumber", value, weight_count, BALL, (1, 2), 80, value)
            self.fails("InvalidNumber", value, weight_row, BALL, (1, 2), value)
            self.fails("InvalidNumber", value, weight_count, OVER, (1, 1, 3, 5), 38, value)
        self.same([weight_count(BALL, (1, 2), 80, 60), weight_count(Tower((2,), ({},)), (1,), 80, 40)], [0, 1])

    def test_150_words_and_more(self):
        # all words of FULL of the degree 2 n have the weight n
        told = (1, 1, 1, 3)
        self.same([weight_words(FULL.letters, told, 22, 11), weight_words(FULL.letters, told, 24, 12)], [150, 185])
        for degree in (21, 22, 23):
            self.same(weight_count(FULL, told, degree, 11), 150 if degree == 22 else 0)
        for degree in (23, 24, 25):
            self.fails("TooMany", 150, weight_count, FULL, told, degree, 12)
        for degree in (0, 22, 26, 80):
            self.same(weight_count(FULL, told, degree, 12), 0)
        self.same(weight_row(FULL, told, 11), {22: 150})
        self.fails("TooMany", 150, weight_row, FULL, told, 12)
        # 151 words are too many
        told = (1, 1, 3, 5)
        self.same(weight_words(OVER.letters, told, 38, 19), 151)
        for degree in (37, 38, 39):
            self.fails("TooMany", 150, weight_count, OVER, told, degree, 19)
        self.fails("TooMany", 150, weight_row, OVER, told, 19)
        self.same(weight_row(OVER, told, 18), {36: word_count(OVER.letters, 36)})
        # words of other weights do not count
        self.same(weight_words(OVER.letters, (1, 2, 3, 5), 38, 19), 18)
        self.same(weight_count(OVER, (1, 2, 3, 5), 38, 19), 18)
        # one degree has too many words, others of the weight do not
        self.same([weight_words((1,) * 10 + (2,), (1,) * 11, degree, 5) for degree in (5, 6, 7)], [252, 210, 120])
        more = Tower((1,) * 10 + (2,), ({},) * 11)
        self.fails("TooMany", 150, weight_row, more, (1,) * 11, 5)
        for degree in (4, 5, 6, 7):
            self.fails("TooMany", 150, weight_count, more, (1,) * 11, degree, 5)
        self.same([weight_count(more, (1,) * 11, degree, 5) for degree in (3, 8, 9, 10, 11)], [0, 45, 10, 1, 0])
        self.fails("TooMany", 150, weight_row, ROW, (1,) * 10, 5)
        self.same(weight_row(ROW, (1,) * 10, 3), {3: 120})
        # very many words in very many degrees
        crowd = Tower((40, 38, 36, 34, 32, 30, 28, 26) * 3, ({},) * 24)
        self.fails("TooMany", 150, weight_row, crowd, (1,) * 24, 60)
        self.same(weight_count(crowd, (1,) * 24, 80, 60), 0)
        self.same(weight_count(crowd, (1,) * 24, 80, 2), 6)


if __name__ == "__main__":
    unittest.main()
