"""Stage 14, least towers: [14.1] to [14.6]."""

import itertools
import random
import unittest
from fractions import Fraction

from stepletters.algebras import least
from stepletters.algebras.algebras import Algebra, beside_algebras, connected, joined
from stepletters.algebras.least import is_least_tower, least_tower, letter_counts
from stepletters.classes.classes import class_basis, class_row
from stepletters.plain.ends import does_end, top_degree
from stepletters.towers.towers import Tower, beside, cut_tower, tower_fault
from stepletters.words.sums import Sum
from stepletters.words.words import word_count
from support import LONGER, SIXTY, Case, any_values, fraction, rank_by_prime, ratio, slow_step, slow_words, spelled
from test_algebras import CUBE, LONG, MIXED, ODD, TURN, Told, slow_product

POINT, BALL, PLANE = Algebra((), {}), Algebra((2,), {}), Algebra((2, 4), {(0, 0): {1: 1}})
THREE = Algebra((3,), {})
NEAR = 10 ** 59 - 1
RATIOS = Algebra((2, 2, 4), {(0, 0): {2: (2, 3)}, (0, 1): {2: (1, NEAR)}, (1, 1): {2: -NEAR}})
# each with a degree to which it has least towers
SOME = [(POINT, 7), (BALL, 7), (PLANE, 7), (THREE, 7), (ODD, 7), (TURN, 7), (CUBE, 7), (MIXED, 7), (LONG, 6), (RATIOS, 6),
        (joined(BALL, BALL), 6), (connected(PLANE, PLANE), 7), (beside_algebras(BALL, PLANE), 7), (joined(PLANE, THREE), 7),
        (Algebra((2, 3, 5), {}), 6), (Algebra((4, 7), {}), 7), (Algebra((2, 7, 20), {}), 7), (Algebra((8, 9), {}), 7)]
# 7 units of degree 2, with 12 squares that are 0 and have no multiples in common, so that 7 and 12 letters are left
TIGHT = Algebra((2,) * 7 + (4,) * 16, {
    (0, 0): {7: 1}, (0, 1): {8: 1}, (0, 3): {9: 1}, (0, 5): {10: 1}, (0, 6): {11: 1}, (1, 2): {12: 1}, (2, 2): {13: 1},
    (2, 3): {14: 1}, (2, 4): {15: 1}, (2, 5): {16: 1}, (2, 6): {17: 1}, (3, 3): {18: 1}, (3, 4): {19: 1}, (4, 6): {20: 1},
    (5, 6): {21: 1}, (6, 6): {22: 1}, (0, 2): {8: 1, 13: -1}, (0, 4): {20: -1, 11: -1, 22: 1}, (1, 1): {18: -1, 9: 1},
    (1, 3): {19: 1, 7: 1, 16: 1}, (1, 4): {16: -1}, (1, 5): {17: -1}, (1, 6): {22: -1, 8: 1, 17: 1},
    (3, 5): {14: -1, 7: -1, 21: 1}, (4, 4): {19: -1}, (4, 5): {10: 1}, (5, 5): {12: -1, 19: -1, 10: -1}})


def slow_image(algebra, images, terms):
    """What a sum is led to, letter by letter, as a list of fractions."""
    total = [Fraction(0)] * (algebra.size + 1)
    for word, number in terms.items():
        made = [Fraction(at == 0) for at in range(algebra.size + 1)]
        for index in spelled(word):
            made = slow_product(algebra, [(part.numerator, part.denominator) for part in made], images[index])
        total = [a + fraction(number) * b for a, b in zip(total, made)]
    return total


def slow_is_least(algebra, most, tower, images):
    """Whether a pair is least, by [14.2] and ranks."""
    letters, steps = tower.letters, [step.terms for step in tower.steps]
    if list(letters) != sorted(letters) or any(not 2 <= letter <= most for letter in letters):
        return False
    degrees = (0,) + algebra.degrees
    for letter, image in zip(letters, images):
        if any(fraction(number) != 0 and degree != letter for number, degree in zip(image, degrees)):
            return False
    if any(any(slow_image(algebra, images, step)) for step in steps):
        return False
    before = 0
    for degree in range(most + 2):
        words = slow_words(letters, degree)
        told = [slow_step(letters, steps, {word: 1}) for word in words]
        targets = sorted({word for step in told for word in step})
        rows = [[step.get(word, Fraction(0)) for word in targets] for step in told]
        both = [row + slow_image(algebra, images, {word: 1}) for row, word in zip(rows, words)]
        rank, wide = rank_by_prime(rows), rank_by_prime(both)
        if len(words) - wide != before or (degree <= most and wide - rank != degrees.count(degree)):
            return False
        before = rank
    return True


class LeastTest(Case):
    def test_constants(self):
        self.same([least.MAX_GROWN, least.MAX_WIDTH], [7, 150])

    def test_least_towers(self):
        # [14.2]
        for algebra, most in SOME:
            for degree in range(2, most + 1):
                value = least_tower(algebra, degree)
                self.assertEqual((type(value), len(value)), (tuple, 2))
                tower, images = value
                self.assertIs(type(tower), Tower)
                self.assertEqual([type(image) for image in (images,) + images], [tuple] * (len(tower) + 1))
                for image in images:
                    self.assertTrue(all(isinstance(part, tuple) and fraction(part) is not None for part in image))
                    self.assertEqual(len(image), algebra.size + 1)
                self.assertTrue(slow_is_least(algebra, degree, tower, images))
                self.assertIs(is_least_tower(algebra, degree, value), True)
                self.same(letter_counts(algebra, degree), tuple(tower.letters.count(at) for at in range(2, degree + 1)))
                if max([word_count(tower.letters, at) for at in range(degree + 2)]) <= 150:
                    self.same(class_row(tower, degree), algebra.row(degree))

    def test_letter_counts(self):
        # [14.3] and [14.4]
        for algebra, most, counts in [
            (BALL, 7, (1, 1, 0, 0, 0, 0)), (PLANE, 7, (1, 0, 0, 1, 0, 0)), (CUBE, 7, (1, 0, 0, 0, 0, 1)), (THREE, 7, (0, 1, 0, 0, 0, 0)),
            (joined(BALL, BALL), 6, (2, 3, 2, 3, 6)), (joined(THREE, THREE), 7, (0, 2, 0, 1, 0, 2)), (POINT, 2, (0,)),
            (connected(PLANE, PLANE), 7, (2, 2, 0, 0, 0, 0)), (joined(BALL, THREE), 7, (1, 2, 1, 1, 2, 3)),
            (Algebra((2, 2), {}), 4, (2, 3, 2)), (TIGHT, 5, (7, 12, 0, 0)), (Algebra((7,), {}), 7, (0, 0, 0, 0, 0, 1)),
        ]:
            self.same(letter_counts(algebra, most), counts)
            for degree in range(2, most):
                self.same(letter_counts(algebra, degree), counts[:degree - 1])

    def test_letters_of_both_sorts(self):
        # [14.4]: units that are missing, and classes of the degree behind with the image 0
        for algebra, most in SOME:
            tower, images = least_tower(algebra, most)
            for degree in range(2, most + 1):
                many = len([letter for letter in tower.letters if letter < degree])
                lower, ahead = cut_tower(tower, many), images[:many]
                numbers = []
                for n in (degree, degree + 1):
                    rows = [slow_image(algebra, ahead, a_sum.terms) for a_sum in class_basis(lower, n)]
                    numbers.append((len(rows), rank_by_prime(rows)))
                missing = algebra.degrees.count(degree) - numbers[0][1]
                self.same(tower.letters.count(degree), missing + numbers[1][0] - numbers[1][1])
                # letters of the first sort have the step 0
                added = tower.steps[many:many + tower.letters.count(degree)]
                self.assertGreaterEqual(len([step for step in added if not step]), missing)

    def test_letters_that_are_cut_off(self):
        # [14.3]
        for algebra, most in SOME:
            tower, images = least_tower(algebra, most)
            for degree in range(most - 1, 1, -1):
                many = len([letter for letter in tower.letters if letter <= degree])
                tower, images = cut_tower(tower, many), images[:many]
                self.assertIs(is_least_tower(algebra, degree, (tower, images)), True)
                if many < len(least_tower(algebra, degree + 1)[0]):
                    self.assertIs(is_least_tower(algebra, degree + 1, (tower, images)), False)

    def test_counts_beside_one_another(self):
        # [14.5]
        for one, other in itertools.combinations_with_replacement([BALL, PLANE, THREE, TURN, CUBE, joined(BALL, THREE)], 2):
            if max(one.top, other.top) + min(one.top, other.top) <= 20:
                made = beside_algebras(one, other)
                wanted = tuple(map(sum, zip(letter_counts(one, 5), letter_counts(other, 5))))
                self.same(letter_counts(made, 5), wanted)
        self.same(letter_counts(beside_algebras(BALL, BALL), 7), letter_counts(connected(PLANE, PLANE), 7))
        self.assertNotEqual(beside_algebras(BALL, BALL), connected(PLANE, PLANE))

    def test_towers_beside_one_another(self):
        # the towers of both beside one another, letters brought into order, are least for two balls of the degree 3 and 4
        one, other = Algebra((3,), {}), Algebra((4,), {})
        tower = beside(least_tower(one, 7)[0], least_tower(other, 7)[0])
        self.same(tower.letters, (3, 4, 7))
        images = ((0, 1, 0, 0), (0, 0, 1, 0), (0, 0, 0, 0))
        self.assertIs(is_least_tower(beside_algebras(one, other), 7, (tower, images)), True)

    def test_least_towers_of_ending_algebras(self):
        # the whole tower of a plane: classes that end at its top degree
        tower = least_tower(PLANE, 7)[0]
        self.assertEqual((does_end(tower), top_degree(tower.letters)), (True, 4))
        tower = least_tower(connected(PLANE, PLANE), 7)[0]
        self.assertEqual((does_end(tower), top_degree(tower.letters)), (True, 4))


class JudgedPairsTest(Case):
    def test_other_pairs(self):
        # [14.3]
        wide, long = (LONGER ** 3, 1), LONGER * 10
        ball = Tower((2, 3), ({}, {(2, 0): (-2, SIXTY)}))
        for images in (((0, 1), (0, 0)), ((0, wide), ((0, 1), 0)), ((0, (1, long)), (0, (0, 1))), ((0, -long), (0, 0)),
                       (((0, 1), (3, 7)), (0, 0))):
            self.assertIs(is_least_tower(BALL, 3, (ball, images)), True)
            self.assertTrue(slow_is_least(BALL, 3, ball, images))
        for images in (((0, 0), (0, 0)), ((0, 1), (0, 1)), ((1, 1), (0, 0)), ((0, 1), (1, 0)), ((0, True), (0, 0)), ((0, 1), (False, 0)),
                       ((0, (2, 4)), (0, 0)), ((0, (1, -1)), (0, 0)), ((0, 1), [0, 0]), [(0, 1), (0, 0)], ((0, 1),), ((0, 1), (0, 0), (0, 0)),
                       ((0,), (0, 0)), ((0, 1, 0), (0, 0, 0)), ((0, None), (0, 0)), ((0, "1"), (0, 0)), ((0, (1, 2, 3)), (0, 0)), None, (),
                       ((0, (1, 0)), (0, 0)), ((0, (True, 1)), (0, 0)), ((0, 1), None)):
            self.assertIs(is_least_tower(BALL, 3, (ball, images)), False)
        good = ((0, 1), (0, 0))
        for value in ([ball, good], (ball, good, None), (ball,), (good, ball), ball, good, (ball, list(good)), (None, good)):
            self.assertIs(is_least_tower(BALL, 3, value), False)
        for value in any_values():
            self.assertIs(is_least_tower(BALL, 3, value), False)
            self.assertIs(is_least_tower(BALL, 3, (value, good)), isinstance(value, Tower) and len(value) > 0)
            self.assertIs(is_least_tower(BALL, 3, (ball, value)), False)
        self.assertIs(is_least_tower(POINT, 4, (Tower((), ()), ())), True)

    def test_towers_near_right_ones(self):
        good, zero = (0, 1), (0, 0)
        for letters, steps, images in [
            ((2,), ({},), (good,)), ((2, 3), ({}, {}), (good, zero)), ((2, 2, 3), ({}, {}, {(2, 0, 0): 1}), (good, zero, zero)),
            ((3, 2), ({}, {}), (zero, good)), ((2, 3, 3), ({}, {(2, 0, 0): 1}, {}), (good, zero, zero)), ((), (), ()),
            ((2, 3, 4), ({}, {(2, 0, 0): 1}, {}), (good, zero, zero)), ((1, 2, 3), ({}, {}, {(0, 2, 0): 1}), (zero, good, zero)),
            ((2, 3, 7), ({}, {(2, 0, 0): 1}, {(4, 0, 0): 1}), (good, zero, zero)),
        ]:
            tower = Tower(letters, steps)
            self.assertIs(is_least_tower(BALL, 3, (tower, images)), False)
            self.assertFalse(slow_is_least(BALL, 3, tower, images))
        plane = Tower((2, 5), ({}, {(3, 0): (2, 9)}))
        for image, wanted in (((0, 1, 0), True), ((0, -3, 0), True), ((0, 1, 1), False), ((0, 0, 1), False), ((0, 0, 0), False)):
            self.assertIs(is_least_tower(PLANE, 6, (plane, (image, (0, 0, 0)))), wanted)
        self.assertIs(is_least_tower(PLANE, 6, (Tower((2, 5), ({}, {})), ((0, 1, 0), (0, 0, 0)))), False)
        self.assertIs(is_least_tower(PLANE, 4, (plane, ((0, 1, 0), (0, 0, 0)))), False)
        self.assertIs(is_least_tower(PLANE, 4, (Tower((2,), ({},)), ((0, 1, 0),))), True)

    def test_pairs_made_here(self):
        # letters that are mixed, and steps to which steps are added
        two = joined(BALL, BALL)
        letters = (2, 2, 3, 3, 3)
        squares = [{(2, 0, 0, 0, 0): 1}, {(1, 1, 0, 0, 0): 1}, {(0, 2, 0, 0, 0): 1}]
        mixed = [{(2, 0, 0, 0, 0): 1, (1, 1, 0, 0, 0): 2}, {(1, 1, 0, 0, 0): (1, 2), (0, 2, 0, 0, 0): 5}, {(0, 2, 0, 0, 0): SIXTY}]
        poor = [squares[0], squares[1], {(2, 0, 0, 0, 0): 1, (1, 1, 0, 0, 0): 1}]
        for steps, first, second, wanted in [
            (squares, (0, 1, 0), (0, 0, 1), True), (mixed, (0, 1, 2), (0, (1, 3), 1), True), (poor, (0, 1, 0), (0, 0, 1), False),
            (mixed, (0, 1, 2), (0, (1, 2), 1), False), (mixed, (0, LONGER ** 2, 2), (0, (1, LONGER), 1), True),
        ]:
            tower = Tower(letters, ({}, {}) + tuple(steps))
            images = (first, second) + ((0, 0, 0),) * 3
            self.assertIs(is_least_tower(two, 3, (tower, images)), wanted)
            self.assertIs(slow_is_least(two, 3, tower, images), wanted)

    def test_products_tell_the_images(self):
        # RATIOS: products with ratios of sixty digits; a step that is closed and has the image 0 just there
        tower, images = least_tower(RATIOS, 3)
        self.same(tower.letters.count(3), 2)
        for step in tower.steps:
            self.assertFalse(any(slow_image(RATIOS, images, step.terms)))
        wrong = Tower(tower.letters, ({}, {}, {(2, 0, 0, 0): 1}, {(1, 1, 0, 0): 1}))
        self.assertIs(is_least_tower(RATIOS, 3, (wrong, images)), False)
        units = ((0, 1, 0, 0), (0, 0, 1, 0), (0, 0, 0, 0), (0, 0, 0, 0))
        last = {(2, 0, 0, 0): (3 * NEAR, 2), (0, 2, 0, 0): 1}
        right = Tower((2, 2, 3, 3), ({}, {}, {(2, 0, 0, 0): 3, (1, 1, 0, 0): -2 * NEAR}, last))
        near = Tower((2, 2, 3, 3), ({}, {}, {(2, 0, 0, 0): 3, (1, 1, 0, 0): -NEAR}, last))
        self.assertIs(is_least_tower(RATIOS, 3, (right, units)), True)
        self.assertIs(is_least_tower(RATIOS, 3, (near, units)), False)

    def test_pairs_with_other_letters(self):
        # each letter a multiple of that of a told pair; then one number of a step or of an image changed
        some = random.Random(7)
        outcomes = []
        for algebra, most in SOME:
            if algebra in (LONG, RATIOS):
                continue
            most = min(most, 6)
            tower, images = least_tower(algebra, most)
            for _ in range(4):
                sizes = [Fraction(some.choice([1, -1, 2, 5, -3]), some.choice([1, 2, 7])) for _ in tower.letters]
                steps = []
                for size, step in zip(sizes, tower.steps):
                    row = {}
                    for word, number in step:
                        part = fraction(number) * size
                        for index in spelled(word):
                            part /= sizes[index]
                        row[word] = (part.numerator, part.denominator)
                    steps.append(row)
                others = tuple(tuple(ratio(fraction(number) * size) for number in image) for size, image in zip(sizes, images))
                other = Tower(tower.letters, tuple(steps))
                self.assertIs(is_least_tower(algebra, most, (other, others)), True)
                for changed in self.changed(some, other, others):
                    wanted = slow_is_least(algebra, most, *changed)
                    self.assertIs(is_least_tower(algebra, most, changed), wanted)
                    outcomes.append(wanted)
        self.assertGreater(min(outcomes.count(True), outcomes.count(False)), 20)

    def changed(self, some, tower, images):
        """The pair with one number of an image, or one step, changed; those that are towers."""
        if tower.size == 0:
            return
        at = some.randrange(tower.size)
        for factor in (0, 3):
            image = tuple((0, 1) if factor == 0 else (3 * top, bottom) if bottom % 3 else (top, bottom // 3) for top, bottom in images[at])
            yield tower, images[:at] + (image,) + images[at + 1:]
        for index, step in enumerate(tower.steps):
            for word, number in step:
                for more in ({}, {word: (number[0] * 2, number[1]) if number[1] % 2 else (number[0], number[1] // 2)}):
                    rows = [row.terms for row in tower.steps]
                    rows[index] = {**{key: part for key, part in rows[index].items() if key != word}, **more}
                    if tower_fault(tower.letters, tuple(rows)) is None:
                        yield Tower(tower.letters, tuple(rows)), images
                break

    def test_integers_of_more_than_sixty_digits_in_steps(self):
        wide = Algebra((2, 2, 2, 4, 4), {(0, 0): {3: SIXTY, 4: 1}, (0, 1): {3: 2, 4: -SIXTY}, (1, 1): {3: SIXTY - 4, 4: 9}, (2, 2): {4: SIXTY - 1},
                                         (1, 2): {3: -5, 4: SIXTY - 10}})
        tower, images = least_tower(wide, 3)
        longest = max(abs(part) for step in tower.steps for _, number in step for part in number)
        self.assertGreater(longest, LONGER)
        self.assertIs(is_least_tower(wide, 3, (tower, images)), True)
        self.assertTrue(slow_is_least(wide, 3, tower, images))
        self.assertIs(is_least_tower(wide, 3, (tower, images[::-1])), False)


class ErrorsTest(Case):
    CALLS = ((least_tower, ()), (letter_counts, ()), (is_least_tower, (None,)))

    def test_wrong_arguments(self):
        for call, more in self.CALLS:
            for value in any_values():
                if not isinstance(value, Algebra):
                    self.fails("InvalidAlgebra", None, call, value, 8, *more)
            for most in (1, 8, 0, -1, None, True, "3", (3,), LONGER, -LONGER, [2]):
                self.fails("InvalidNumber", most, call, BALL, most, *more)
                self.fails("InvalidNumber", most, call, Algebra((2,) * 24, {}), most, *more)

    def test_too_many_words_and_letters(self):
        for algebra, most, limit in [
            (Algebra((2,) * 17, {}), 3, 150), (Algebra((2,) * 16, {}), 3, 24), (Algebra((2,) * 24, {}), 3, 150), (Algebra((2,) * 6, {}), 3, 24),
            (Algebra((2,) * 5, {}), 4, 24), (Algebra((3,) * 24, {}), 5, 150), (Algebra((3,) * 18, {}), 5, 150), (Algebra((3,) * 17, {}), 5, 24),
            (TIGHT, 6, 150), (Algebra((4,) * 17, {}), 7, 150), (Algebra((4,) * 16, {}), 7, 24), (joined(BALL, BALL), 7, 24),
            (joined(joined(BALL, BALL), joined(BALL, BALL)), 4, 24),
        ]:
            for call, more in self.CALLS:
                for degree in range(most, 8):
                    self.fails("TooMany", limit, call, algebra, degree, *more)
            self.assertEqual(len(letter_counts(algebra, most - 1)), most - 2)

    def test_the_bounds_themselves(self):
        # exactly 150 words of the degree 6 in the letters of the degrees 2 and 3
        tower = least_tower(TIGHT, 5)[0]
        self.same((tower.letters, word_count(tower.letters, 6), word_count(tower.letters, 7)), ((2,) * 7 + (3,) * 12, 150, 336))
        # exactly 24 letters
        for algebra, most in ((Algebra((2,) * 24, {}), 2), (Algebra((3,) * 24, {}), 4), (Algebra((7,) * 24, {}), 7)):
            self.same(sum(letter_counts(algebra, most)), 24)
            self.assertIs(is_least_tower(algebra, most, least_tower(algebra, most)), True)

    def test_what_is_not_true(self):
        # [14.6]
        self.same(letter_counts(joined(THREE, THREE), 7), (0, 2, 0, 1, 0, 2))
        self.assertGreater(letter_counts(joined(BALL, BALL), 6)[-1], 2)
        one, other = least_tower(BALL, 3), (Tower((2, 3), ({}, {(2, 0): 5})), ((0, 2), (0, 0)))
        self.assertNotEqual(one[0], other[0])
        self.assertTrue(is_least_tower(BALL, 3, one) and is_least_tower(BALL, 3, other))
        same_row = (joined(PLANE, BALL), Algebra((2, 2, 4), {(0, 1): {2: 1}}))
        self.assertEqual(same_row[0].row(9), same_row[1].row(9))
        self.assertNotEqual(letter_counts(same_row[0], 4), letter_counts(same_row[1], 4))

    def test_sums_of_least_towers(self):
        # a sum is led to a product of images
        tower, images = least_tower(CUBE, 7)
        self.same(slow_image(CUBE, images, Sum(tower.letters, {(3, 0): 3}).terms)[3], Fraction(2))
        self.assertIsInstance(Told(CUBE.degrees, CUBE.products).size, int)


if __name__ == "__main__":
    unittest.main()
