"""Maps of towers: a sum in the letters of one tower for each letter of another one."""

from stepletters.base.echelon import take_in
from stepletters.base.exact import ONE, ZERO, added, multiplied, whole_multiple
from stepletters.base.ratios import check_between
from stepletters.classes.classes import MAX_CLASSED, class_basis
from stepletters.classes.rows import check_listed, row_of_sum, step_lot
from stepletters.errors import InvalidMap, TooMany
from stepletters.towers.towers import check_tower
from stepletters.words.sums import check_sum, is_sum, joined_numbers, made_sum
from stepletters.words.words import MAX_LETTER, degree_of, listed_words, unit_word

MAX_MAPPED = 150
_MAX_LED = 60


def map_fault(one, other, images):
    """The first fault of images as a map of towers, None if there is none."""
    check_tower(one)
    check_tower(other)
    _check_images(one, other, images)
    _check_mapped(one, other)
    return _first_fault(one, other, images)


def is_map(one, other, value):
    """Whether the value is a map from one tower to another one."""
    check_tower(one)
    check_tower(other)
    _check_mapped(one, other)
    return _is_images(one, other, value) and _first_fault(one, other, value) is None


def led(one, other, images, a_sum):
    """What a sum in the letters of a map's first tower is led to."""
    check_tower(one)
    check_tower(other)
    _check_map(one, other, images)
    check_sum(one.letters, a_sum)
    _check_leading(other, a_sum)
    return _led_sum(other, images, {}, a_sum)


def composed(one, two, three, first, second):
    """The map that is made of two maps, one behind the other."""
    check_tower(one)
    check_tower(two)
    check_tower(three)
    _check_map(one, two, first)
    _check_map(two, three, second)
    for image in first:
        _check_leading(three, image)
    kept = {}
    return tuple([_led_sum(three, second, kept, image) for image in first])


def linear_part(one, other, images, degree):
    """The numbers of the letters of a degree in the images of those of this degree."""
    check_tower(one)
    check_tower(other)
    _check_map(one, other, images)
    check_between(degree, 1, MAX_LETTER)
    columns = [unit_word(other.letters, at) for at, letter in enumerate(other.letters) if letter == degree]
    found = []
    for letter, image in zip(one.letters, images):
        if letter == degree:
            numbers = image.terms
            found.append(tuple([numbers.get(word, ZERO) for word in columns]))
    return tuple(found)


def class_map(one, other, images, degree):
    """The dimension of the classes to which those of a degree are led."""
    check_tower(one)
    check_tower(other)
    _check_map(one, other, images)
    check_between(degree, 0, MAX_CLASSED)
    for tower in (one, other):
        check_listed(tower.letters, [degree - 1, degree, degree + 1], MAX_MAPPED)
    words = listed_words(other.letters, degree)
    lot = step_lot(other, degree)
    kept = {}
    found = 0
    for a_sum in class_basis(one, degree):
        image = _led_sum(other, images, kept, a_sum)
        if take_in(lot, whole_multiple(row_of_sum(words, image))):
            found += 1
    return found


def _is_images(one, other, value):
    if not isinstance(value, tuple) or len(value) != one.size:
        return False
    return all([is_sum(other.letters, image) for image in value])


def _check_images(one, other, images):
    if not _is_images(one, other, images):
        raise InvalidMap("not a sum in the letters of the second tower for each letter of the first one")


def _check_mapped(one, other):
    """Raise the error for a second tower that has too many words of a degree that a map asks for."""
    check_listed(other.letters, list(range(max((0,) + one.letters) + 2)), MAX_MAPPED)


def _check_map(one, other, images):
    _check_images(one, other, images)
    _check_mapped(one, other)
    if _first_fault(one, other, images) is not None:
        raise InvalidMap("the images have a fault")


def _check_leading(other, a_sum):
    """Raise the errors for a sum with words of too high degrees to be led."""
    degrees = [degree_of(a_sum.letters, word) for word in a_sum.terms]
    if any([degree > _MAX_LED for degree in degrees]):
        raise TooMany(_MAX_LED)
    if len(degrees) > 0:
        check_listed(other.letters, list(range(max(degrees) + 1)), MAX_MAPPED)


def _first_fault(one, other, images):
    for index, image in enumerate(images):
        if len(image) > 0 and image.degree != one.letters[index]:
            return ("degree", index)
    kept = {}
    for index, image in enumerate(images):
        if other.step(image) != _led_sum(other, images, kept, one.steps[index]):
            return ("step", index)
    return None


def _led_sum(other, images, kept, a_sum):
    """The sum that comes if each letter is replaced by its image; `kept` are words led so far."""
    found = {}
    for word, factor in a_sum:
        for made, number in _led_word(other.letters, images, kept, word).items():
            found[made] = added(found.get(made, ZERO), multiplied(factor, number))
    return made_sum(other.letters, found)


def _led_word(letters, images, kept, word):
    """The product of the images of the letters of a word, as a dict from words to ratios."""
    if word not in kept:
        if sum(word) == 0:
            kept[word] = {unit_word(letters): ONE}
        else:
            last = max([index for index, exponent in enumerate(word) if exponent > 0])
            shorter = word[:last] + (word[last] - 1,) + word[last + 1:]
            ahead = _led_word(letters, images, kept, shorter)
            kept[word] = joined_numbers(letters, ahead, images[last].terms)
    return kept[word]
