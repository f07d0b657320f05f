"""What degrees alone tell: whether there is a tower with them whose classes end."""

from stepletters.base.exact import ZERO, is_quotient, is_whole
from stepletters.base.ratios import as_ratio, check_between, is_between
from stepletters.classes.rows import check_listed
from stepletters.errors import InvalidLetters, TooMany
from stepletters.plain.ideals import bound_of, open_degree
from stepletters.words.words import MAX_LETTER, degree_of, is_exponents, length_of, listed_words

MAX_EVENS = 6
MAX_ODDS = 10
MAX_SHOWN = 80
MAX_LISTED = 150
_MOST_MADE = 1000
_PRIME = 2 ** 31 - 1
_FACTOR = 48271
_MOST_NUMBER = 50


def is_made(number, degrees):
    """Whether an integer is a sum, with repeats, of at least two of some degrees."""
    check_between(number, 0, _MOST_MADE)
    if not _is_degrees(degrees, MAX_EVENS, 1, MAX_LETTER):
        raise InvalidLetters("not a tuple of at most six integers from 1 to 40")
    return _is_sum_of_two(number, degrees)


def barring_lots(evens, odds):
    """The ascending tuple of all lots of even degrees that bar."""
    _check_degrees(evens, odds)
    return _barring(evens, odds)


def can_end(evens, odds):
    """Whether there is a tower with these degrees whose classes end."""
    _check_degrees(evens, odds)
    return len(_barring(evens, odds)) == 0


def degrees_paper(evens, odds):
    """A tower with these degrees whose classes end, or a lot that bars."""
    lots = _checked_lots(evens, odds)
    if len(lots) > 0:
        return ("lot", lots[0])
    return ("tower", _ending_steps(evens, odds))


def is_degrees_paper(evens, odds, value):
    """Whether the value is such a tower, or a lot that bars."""
    lots = _checked_lots(evens, odds)
    if not isinstance(value, tuple) or len(value) != 2 or not isinstance(value[1], tuple):
        return False
    if value[0] == "lot":
        return all([is_whole(index) for index in value[1]]) and value[1] in lots
    if value[0] == "tower" and len(lots) == 0:
        return _are_steps(evens, odds, value[1]) and _do_steps_end(evens, odds, value[1])
    return False


def _is_degrees(value, many, least, most):
    if not isinstance(value, tuple) or len(value) > many:
        return False
    return all([is_between(degree, least, most) for degree in value])


def _check_degrees(evens, odds):
    if not _is_degrees(evens, MAX_EVENS, 2, MAX_LETTER) or any([degree % 2 == 1 for degree in evens]):
        raise InvalidLetters("not a tuple of at most six even integers from 2 to 40")
    if not _is_degrees(odds, MAX_ODDS, 3, MAX_LETTER) or any([degree % 2 == 0 for degree in odds]):
        raise InvalidLetters("not a tuple of at most ten odd integers from 3 to 39")


def _checked_lots(evens, odds):
    """The lots that bar; the errors for degrees for which no tower is shown."""
    _check_degrees(evens, odds)
    lots = _barring(evens, odds)
    if len(lots) == 0 and len(evens) > 0:
        bound = bound_of(evens + odds)
        if bound + max(evens) > MAX_SHOWN:
            raise TooMany(MAX_SHOWN)
        check_listed(evens, list(range(bound + 1, bound + max(evens) + 1)), MAX_LISTED)
    return lots


def _is_sum_of_two(number, degrees):
    sums = [False] * (number + 1)
    for at in range(number):
        sums[at] = at in degrees or any([sums[at - degree] for degree in degrees if degree < at])
    return any([sums[number - degree] for degree in degrees if degree < number])


def _barring(evens, odds):
    return tuple([lot for lot in _lots(len(evens)) if _does_bar(evens, odds, lot)])


def _lots(size):
    """All ascending tuples of at least one of the first so many indices, ascending."""
    found = [()]
    for index in range(size):
        found = found + [lot + (index,) for lot in found]
    return sorted(found[1:])


def _does_bar(evens, odds, lot):
    degrees = tuple([evens[index] for index in lot])
    return len([odd for odd in odds if _is_sum_of_two(odd + 1, degrees)]) < len(lot)


def _ending_steps(evens, odds):
    """Steps of odd letters of a plain tower whose classes end, for degrees that no lot bars."""
    words = [_needed_words(evens, odd + 1) for odd in odds]
    number = 1
    while True:
        steps = []
        for row in words:
            step = {}
            for word in row:
                # Where no lot bars almost all numbers do: these are just unlike ones.
                number = number * _FACTOR % _PRIME
                step[word] = 1 + number % _MOST_NUMBER
            steps.append(step)
        if _do_steps_end(evens, odds, steps):
            return tuple(steps)


def _needed_words(evens, degree):
    """Words of a degree, of the length 2 at least: one for each least lot that makes the degree.

    On the points at which just the letters of a lot are not 0 one of these words is not 0,
    if the lot makes the degree, so a sum of them with almost any numbers cuts the points down.
    """
    words = {}
    for word in listed_words(evens, degree):
        if length_of(word) > 1:
            lot = tuple([index for index, exponent in enumerate(word) if exponent > 0])
            words[lot] = word
    least = [own for own in words if not any([_is_within(other, own) for other in words])]
    return [words[own] for own in least]


def _is_within(lot, other):
    return len(lot) < len(other) and all([index in other for index in lot])


def _are_steps(evens, odds, value):
    return len(value) == len(odds) and all([_is_step(evens, odd, step) for odd, step in zip(odds, value)])


def _is_step(evens, odd, value):
    if not isinstance(value, dict):
        return False
    for word, number in value.items():
        if not is_exponents(word, len(evens)) or any([exponent < 0 for exponent in word]):
            return False
        if degree_of(evens, word) != odd + 1 or length_of(word) < 2:
            return False
        if number == 0 or number == ZERO or not (is_whole(number) or is_quotient(number)):
            return False
    return True


def _do_steps_end(evens, odds, steps):
    parts = []
    for odd, step in zip(odds, steps):
        parts.append((odd + 1, {word: as_ratio(number) for word, number in step.items()}))
    return open_degree(evens, parts, bound_of(evens + odds)) is None
