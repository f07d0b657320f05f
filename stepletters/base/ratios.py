"""Ratios of integers of at most sixty digits, and the checks of passed numbers."""

from stepletters.base.exact import added, is_quotient, is_whole, multiplied, quotient_text, reduced
from stepletters.errors import InvalidNumber, InvalidOperation, InvalidRatio

_LIMIT = 10 ** 60


def is_integer(value):
    """Whether the value is an integer of at most sixty digits."""
    return is_whole(value) and -_LIMIT < value < _LIMIT


def is_ratio(value):
    """Whether the value is a ratio of integers of at most sixty digits."""
    return is_quotient(value) and is_integer(value[0]) and is_integer(value[1])


def is_number(value):
    """Whether the value is an integer or a ratio, of at most sixty digits."""
    return is_integer(value) or is_ratio(value)


def as_ratio(number):
    """The ratio that a number is."""
    return number if isinstance(number, tuple) else (number, 1)


def is_between(value, least, most):
    """Whether the value is an integer from `least` to `most`."""
    return is_integer(value) and least <= value <= most


def check_between(value, least, most):
    """Raise the error for a value that is no integer from `least` to `most`."""
    if not is_between(value, least, most):
        raise InvalidNumber(value)


def lowest(top, bottom):
    """The ratio that two integers make."""
    if not is_integer(top):
        raise InvalidNumber(top)
    if not is_integer(bottom) or bottom == 0:
        raise InvalidNumber(bottom)
    return reduced(top, bottom)


def plus(one, other):
    """The sum of two ratios."""
    _check_ratios(one, other)
    return added(one, other)


def minus(one, other):
    """The difference of two ratios."""
    _check_ratios(one, other)
    return added(one, (-other[0], other[1]))


def times(one, other):
    """The product of two ratios."""
    _check_ratios(one, other)
    return multiplied(one, other)


def over(one, other):
    """The quotient of two ratios, the second one other than 0."""
    _check_ratios(one, other)
    if other[0] == 0:
        raise InvalidOperation("nothing is divided by 0")
    return reduced(one[0] * other[1], one[1] * other[0])


def compare(one, other):
    """-1, 0 or 1, as the first ratio is below, equal to or above the second one."""
    _check_ratios(one, other)
    left, right = one[0] * other[1], other[0] * one[1]
    if left == right:
        return 0
    return -1 if left < right else 1


def ratio_text(ratio):
    """The text of a ratio, such as `-3/2`, or `4`."""
    if not is_ratio(ratio):
        raise InvalidRatio("not a ratio")
    return quotient_text(ratio)


def _check_ratios(one, other):
    if not is_ratio(one):
        raise InvalidRatio("the first value is no ratio")
    if not is_ratio(other):
        raise InvalidRatio("the second value is no ratio")
