"""Towers that are built by a rule, and the numbers of their classes."""

from stepletters.base.ratios import check_between, is_between
from stepletters.base.series import one_series, over_less, times_less
from stepletters.errors import InvalidNumber, InvalidOperation
from stepletters.towers.towers import Tower
from stepletters.words.sums import Sum
from stepletters.words.words import MAX_LETTER, listed_words

_MAX_SPHERE = 20
_MAX_UNIT = 12
_MAX_POWERS = 12
_MAX_GROUP = 8
_MAX_FEW = 4
_MAX_SPACE = 8
_MAX_FLAG = 5
_MAX_SIDE = 40
_MAX_BOXES = 1600
_MAX_TURNS = 780


def sphere(number):
    """The tower with the classes 1 at the degree 0 and 1 at `number`."""
    check_between(number, 1, _MAX_SPHERE)
    if number % 2 == 1:
        return Tower((number,), ({},))
    return Tower((number, 2 * number - 1), ({}, {(2, 0): 1}))


def projective(degree, number):
    """The tower with the powers of one letter, to `number`, as its classes."""
    if not is_between(degree, 2, _MAX_UNIT) or degree % 2 == 1:
        raise InvalidNumber(degree)
    check_between(number, 1, _MAX_POWERS)
    last = degree * (number + 1) - 1
    if last > MAX_LETTER:
        raise InvalidOperation("the odd letter would have a degree above 40")
    return Tower((degree, last), ({}, {(number + 1, 0): 1}))


def special_group(number):
    """The tower of the odd letters from 3 on, `number` - 1 of them, with steps 0."""
    check_between(number, 1, _MAX_GROUP)
    letters = tuple(range(3, 2 * number, 2))
    return Tower(letters, ({},) * len(letters))


def spaces(few, number):
    """The tower of the spaces of the dimension `few` in one of the dimension `number`."""
    check_between(few, 1, _MAX_FEW)
    check_between(number, 2, _MAX_SPACE)
    if 2 * few > number:
        raise InvalidOperation("twice the first number is above the second one")
    letters = tuple(range(2, 2 * few + 1, 2)) + tuple(range(2 * (number - few) + 1, 2 * number, 2))
    steps = _space_steps(letters, few, number)
    return Tower(letters, ({},) * few + tuple([step.terms for step in steps[number - few + 1:]]))


def flags(number):
    """The tower of the flags of all spaces in one of the dimension `number`."""
    check_between(number, 1, _MAX_FLAG)
    letters = (2,) * (number - 1) + tuple(range(3, 2 * number, 2))
    steps = [_flag_step(number, length) for length in range(2, number + 1)]
    return Tower(letters, ({},) * (number - 1) + tuple(steps))


def box_count(few, many, number):
    """The number of falling rows of at most `few` integers from 1 to `many` with a sum."""
    check_between(few, 0, _MAX_SIDE)
    check_between(many, 0, _MAX_SIDE)
    check_between(number, 0, _MAX_BOXES)
    series = one_series(number)
    for at in range(1, few + 1):
        series = over_less(times_less(series, many + at), at)
    return series[number]


def turn_count(many, number):
    """The number of sequences of 1 to `many` with so many pairs that are turned round."""
    check_between(many, 0, _MAX_SIDE)
    check_between(number, 0, _MAX_TURNS)
    series = one_series(number)
    for at in range(1, many + 1):
        series = over_less(times_less(series, at), 1)
    return series[number]


def _space_steps(letters, few, number):
    """The sums h_0, h_1 and so on to h_number."""
    found = [Sum.one(letters)]
    for at in range(1, number + 1):
        step = Sum(letters, {})
        for index in range(min(few, at)):
            part = Sum.letter(letters, index) * found[at - index - 1]
            step = step + part if index % 2 == 0 else step - part
        found.append(step)
    return found


def _flag_step(number, length):
    """The sum of all words of a length in the first letters, as many as are told."""
    few = number - length + 1
    rest = (0,) * (2 * (number - 1) - few)
    return {word + rest: 1 for word in listed_words((2,) * few, 2 * length)}
