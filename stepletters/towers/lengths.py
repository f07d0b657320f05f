"""Lengths: towers whose steps have words of one length, and their classes."""

from stepletters.base.ratios import check_between, is_integer
from stepletters.classes.classes import MAX_CLASSED, MAX_LISTED
from stepletters.classes.rows import block_number, check_listed
from stepletters.classes.weights import MOST_WEIGHT
from stepletters.errors import InvalidNumber, InvalidOperation
from stepletters.plain.ends import check_ending
from stepletters.towers.towers import check_tower
from stepletters.words.sums import check_some_sum, is_sum, made_sum
from stepletters.words.words import length_of, listed_words, odd_indices

MAX_LENGTH = 80


def step_length(tower):
    """The length of all words of all steps, 0 without steps, None for unlike lengths."""
    check_tower(tower)
    lengths = sorted({length_of(word) for step in tower.steps for word in step.terms})
    if len(lengths) > 1:
        return None
    return lengths[0] if len(lengths) == 1 else 0


def length_part(a_sum, length):
    """The sum of all terms of a length."""
    check_some_sum(a_sum)
    if not is_integer(length) or length < 0:
        raise InvalidNumber(length)
    return made_sum(a_sum.letters, {word: number for word, number in a_sum if length_of(word) == length})


def length_count(tower, degree, length):
    """The number of independent classes of a degree and a length."""
    check_tower(tower)
    check_between(degree, 0, MAX_CLASSED)
    check_between(length, 0, MAX_LENGTH)
    return _length_numbers(tower, degree, [length])[0]


def length_row(tower, degree):
    """The numbers of independent classes of a degree for the lengths from 0 to the degree."""
    check_tower(tower)
    check_between(degree, 0, MAX_CLASSED)
    return tuple(_length_numbers(tower, degree, list(range(degree + 1))))


def length_weights(tower):
    """The weighting by which classes of a degree and a length are those of a weight."""
    size = step_length(tower)
    if size is None or size == 0:
        raise InvalidOperation("the tower has no step length, or no steps")
    weighting = tuple([(size - 1) * degree - 1 for degree in tower.letters])
    if not all([1 <= integer <= MOST_WEIGHT for integer in weighting]):
        raise InvalidOperation("an integer of the weighting is not from 1 to 40")
    return weighting


def top_length(tower):
    """The length of the words that tell the top class."""
    size = step_length(tower)
    if size is None or 1 in tower.letters:
        raise InvalidOperation("the tower has no step length, or a letter of the degree 1")
    check_ending(tower)
    odds = len(odd_indices(tower.letters))
    # Without steps there are no even letters.
    return odds + (tower.size - odds) * (size - 2)


def is_one_length(tower, value):
    """Whether the value is a sum in the letters of the tower with words of one length."""
    check_tower(tower)
    return is_sum(tower.letters, value) and len({length_of(word) for word in value.terms}) < 2


def _length_numbers(tower, degree, lengths):
    """The numbers of independent classes of a degree for some lengths."""
    size = step_length(tower)
    if size is None:
        raise InvalidOperation("the tower has no step length")
    check_listed(tower.letters, [degree - 1, degree, degree + 1], MAX_LISTED)
    words = listed_words(tower.letters, degree)
    before = listed_words(tower.letters, degree - 1)
    found = []
    for length in lengths:
        own = [word for word in words if length_of(word) == length]
        former = [word for word in before if length_of(word) == length + 1 - size]
        found.append(block_number(tower, own, former))
    return found
