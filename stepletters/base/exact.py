"""Integers and ratios of any size; a ratio is a pair (top, bottom) in lowest terms."""

from math import gcd, lcm

ZERO = (0, 1)
ONE = (1, 1)
_BLOCK = 10 ** 64
_BLOCK_DIGITS = 64


def is_whole(value):
    """Whether the value is an integer, however long; True and False are none."""
    return isinstance(value, int) and not isinstance(value, bool)


def is_quotient(value):
    """Whether the value is a ratio of integers, however long."""
    if not isinstance(value, tuple) or len(value) != 2:
        return False
    top, bottom = value
    if not is_whole(top) or not is_whole(bottom):
        return False
    return bottom > 0 and gcd(top, bottom) == 1


def reduced(top, bottom):
    """The ratio that two integers make; the bottom is not 0."""
    common = gcd(top, bottom)
    if bottom < 0:
        common = -common
    return (top // common, bottom // common)


def added(one, other):
    """The sum of two ratios."""
    if one[1] == 1 and other[1] == 1:
        return (one[0] + other[0], 1)
    return reduced(one[0] * other[1] + other[0] * one[1], one[1] * other[1])


def multiplied(one, other):
    """The product of two ratios."""
    if one[1] == 1 and other[1] == 1:
        return (one[0] * other[0], 1)
    return reduced(one[0] * other[0], one[1] * other[1])


def whole_multiple(row):
    """A row {column: ratio}, times the least integer that makes all its ratios integers."""
    common = 1
    for ratio in row.values():
        common = lcm(common, ratio[1])
    return {column: ratio[0] * (common // ratio[1]) for column, ratio in row.items()}


def whole_text(number):
    """The digits of an integer of any size."""
    if -_BLOCK < number < _BLOCK:
        return str(number)
    # Python's own str refuses integers of some thousand digits.
    rest = abs(number)
    blocks = []
    while rest > 0:
        rest, block = divmod(rest, _BLOCK)
        blocks.append(str(block).zfill(_BLOCK_DIGITS))
    digits = "".join(blocks[::-1]).lstrip("0")
    return f"-{digits}" if number < 0 else digits


def quotient_text(ratio):
    """The text of a ratio: `top/bottom`, or the top alone if the bottom is 1."""
    top, bottom = ratio
    if bottom == 1:
        return whole_text(top)
    return f"{whole_text(top)}/{whole_text(bottom)}"
