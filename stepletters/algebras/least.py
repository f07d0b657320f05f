"""Least towers of algebras, letter by letter.

A letter's image is told as an element {unit: ratio} of the algebra (see
`stepletters.algebras.products`).
"""

from stepletters.algebras.algebras import check_algebra
from stepletters.algebras.products import UNIT_ONE, joined_units, numbers_of_row, row_of_numbers
from stepletters.base.echelon import echelon, kernel_rows, take_in, turned
from stepletters.base.exact import ONE, ZERO, added, is_quotient, is_whole, multiplied
from stepletters.base.ratios import as_ratio, check_between
from stepletters.classes.rows import check_listed, step_lot, whole_rows, word_rows
from stepletters.errors import TooMany
from stepletters.towers.towers import Tower, made_tower
from stepletters.words.words import MAX_LETTERS, listed_words

MAX_GROWN = 7
MAX_WIDTH = 150
_LEAST_DEGREE = 2


def least_tower(algebra, most):
    """A least pair of an algebra to a degree: the tower, and the images of its letters."""
    tower, images = _grown(algebra, most)
    return (tower, tuple([numbers_of_row(image, algebra.size) for image in images]))


def letter_counts(algebra, most):
    """The numbers of the letters of the degrees from 2 to `most` of least towers."""
    letters = _grown(algebra, most)[0].letters
    return tuple([letters.count(degree) for degree in range(_LEAST_DEGREE, most + 1)])


def is_least_tower(algebra, most, value):
    """Whether the value is a least pair of an algebra to a degree."""
    letters = _grown(algebra, most)[0].letters
    if not isinstance(value, tuple) or len(value) != 2:
        return False
    tower, images = value
    # By [14.3] all least pairs have these letters.
    if not isinstance(tower, Tower) or tower.letters != letters or not _is_images(algebra, letters, images):
        return False
    rows = [row_of_numbers(image) for image in images]
    if any([len(_sum_image(algebra, rows, step)) > 0 for step in tower.steps]):
        return False
    return _is_onto_and_into(algebra, most, tower, rows)


def _grown(algebra, most):
    """The tower of a least pair and the images of its letters; the errors for what has none."""
    check_algebra(algebra)
    check_between(most, _LEAST_DEGREE, MAX_GROWN)
    tower, images = Tower((), ()), []
    for degree in range(_LEAST_DEGREE, most + 1):
        check_listed(tower.letters, [degree + 1], MAX_WIDTH)
        further = _missing_units(algebra, tower, images, degree)
        steps = _steps_wanted(algebra, tower, images, degree + 1)
        many = len(further) + len(steps)
        if tower.size + many > MAX_LETTERS:
            raise TooMany(MAX_LETTERS)
        tower = _longer_tower(tower, degree, [{}] * len(further) + steps)
        images = images + [{unit: ONE} for unit in further] + [{}] * len(steps)
    return tower, images


def _missing_units(algebra, tower, images, degree):
    """Units of a degree that, with the images of closed sums, make all of this degree."""
    words = listed_words(tower.letters, degree)
    rows = _image_rows(algebra, images, words)
    closed = kernel_rows(whole_rows(turned(word_rows(tower, words))), len(words))
    made = []
    for row in closed:
        parts = {at: (number, 1) for at, number in row.items()}
        made.append(_combined(parts, rows))
    lot = echelon(whole_rows(made))
    return [unit for unit, told in enumerate(algebra.degrees) if told == degree and unit not in lot]


def _steps_wanted(algebra, tower, images, degree):
    """Closed sums of a degree with the image 0 that make, with the steps, all of these."""
    words = listed_words(tower.letters, degree)
    conditions = turned(word_rows(tower, words)) + turned(_image_rows(algebra, images, words))
    lot = step_lot(tower, degree)
    found = []
    for row in kernel_rows(whole_rows(conditions), len(words)):
        if take_in(lot, row):
            found.append({words[at]: (number, 1) for at, number in row.items()})
    return found


def _longer_tower(tower, degree, steps):
    """The tower with a letter of a degree more for each of some steps in its letters."""
    rest = (0,) * len(steps)
    numbers = [step.terms for step in tower.steps] + steps
    longer = [{word + rest: number for word, number in row.items()} for row in numbers]
    return made_tower(tower.letters + (degree,) * len(steps), longer)


def _image_rows(algebra, images, words):
    """The images of some words."""
    return [_word_image(algebra.degrees, algebra.products, images, word) for word in words]


def _word_image(degrees, products, images, word):
    found = {UNIT_ONE: ONE}
    for image, exponent in zip(images, word):
        for _ in range(exponent):
            found = joined_units(degrees, products, found, image)
    return found


def _sum_image(algebra, images, a_sum):
    numbers = a_sum.terms
    words = list(numbers)
    parts = {at: numbers[word] for at, word in enumerate(words)}
    return _combined(parts, _image_rows(algebra, images, words))


def _combined(parts, rows):
    """The sum of some rows, each times its ratio."""
    found = {}
    for at, factor in parts.items():
        for unit, number in rows[at].items():
            found[unit] = added(found.get(unit, ZERO), multiplied(factor, number))
    return {unit: number for unit, number in found.items() if number != ZERO}


def _is_images(algebra, letters, value):
    if not isinstance(value, tuple) or len(value) != len(letters):
        return False
    return all([_is_image(algebra.degrees, degree, image) for degree, image in zip(letters, value)])


def _is_image(degrees, degree, value):
    """Whether the value tells an element with units of a degree alone, with numbers of any size."""
    if not isinstance(value, tuple) or len(value) != len(degrees) + 1:
        return False
    if not all([is_whole(number) or is_quotient(number) for number in value]):
        return False
    return all([as_ratio(number) == ZERO or told == degree for number, told in zip(value, (0,) + degrees)])


def _is_onto_and_into(algebra, most, tower, images):
    """Whether closed sums are led onto all units, and those led to 0 are steps, as far as is wanted."""
    wanted = algebra.row(most)
    before = 0
    for degree in range(most + 2):
        words = listed_words(tower.letters, degree)
        steps = word_rows(tower, words)
        rank = len(echelon(whole_rows(steps)))
        both = len(echelon(whole_rows(_side_by_side(steps, _image_rows(algebra, images, words)))))
        if len(words) - both != before:
            return False
        if degree <= most and both - rank != wanted[degree]:
            return False
        before = rank
    return True


def _side_by_side(steps, images):
    """Each step with its image in one row; the images stand ahead, at columns below 0."""
    found = []
    for step, image in zip(steps, images):
        row = {at: number for at, number in step.items()}
        for unit, number in image.items():
            row[UNIT_ONE - 1 - unit] = number
        found.append(row)
    return found
