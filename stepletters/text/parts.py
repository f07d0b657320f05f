"""Reading the parts of a text from the left.

Each function takes all parts and the index of the first one that it reads, and
raises the error for the first part that cannot stand at its place; the spot behind
the last part is that of parts that are missing.
"""

from math import gcd

from stepletters.errors import ParseError

_MOST_DIGITS = 60
_DIGITS = "0123456789"


def end_at(parts, at):
    """Nothing may stand at or behind the index."""
    if at < len(parts):
        raise ParseError(at)


def sign_at(parts, at, sign):
    """Read a sign; the index behind it."""
    if at >= len(parts) or parts[at] != sign:
        raise ParseError(at)
    return at + 1


def integer_at(parts, at, least, most):
    """Read an integer part within bounds; None is no bound. The integer."""
    number = _whole_of(parts[at]) if at < len(parts) else None
    if number is None or not _is_within(number, least, most):
        raise ParseError(at)
    return number


def integers_at(parts, at, many, least, most):
    """Read at most so many integer parts within bounds; the list of them, and the index behind them."""
    found = []
    while at < len(parts) and len(found) < many:
        number = _whole_of(parts[at])
        if number is None or not _is_within(number, least, most):
            break
        found.append(number)
        at += 1
    return found, at


def ratio_at(parts, at):
    """Read a number part; the ratio."""
    ratio = _ratio_of(parts[at]) if at < len(parts) else None
    if ratio is None:
        raise ParseError(at)
    return ratio


def terms_at(parts, at, limits):
    """Read as many terms as there are; the list of them, and the index behind them.

    A term is told as a pair of the integers behind `:`, as many as there are limits,
    each from 0 to its limit, and of its ratio.
    """
    found = []
    while at < len(parts) and parts[at] == ";":
        ratio = ratio_at(parts, at + 1)
        if ratio[0] == 0:
            raise ParseError(at + 1)
        at = sign_at(parts, at + 2, ":")
        key = []
        for limit in limits:
            key.append(integer_at(parts, at, 0, limit))
            at += 1
        found.append((tuple(key), ratio))
    return found, at


def blocks_at(parts, at, many, size, limits):
    """Read blocks of terms to the end; the list of pairs of what stands ahead of its terms, and these.

    Ahead of the terms there stand so many integers below the size that do not fall.
    """
    found = []
    while at < len(parts):
        at = sign_at(parts, at, "|")
        head = [0]
        for _ in range(many):
            head.append(integer_at(parts, at, head[-1], size - 1))
            at += 1
        sign_at(parts, at, ";")
        terms, at = terms_at(parts, at, limits)
        found.append((tuple(head[1:]), terms))
    return found


def _is_within(number, least, most):
    return (least is None or number >= least) and (most is None or number <= most)


def _whole_of(part):
    """The integer that a part tells, None if it is no integer part."""
    digits = part[1:] if part.startswith("-") else part
    if not 1 <= len(digits) <= _MOST_DIGITS or not all([sign in _DIGITS for sign in digits]):
        return None
    if digits.startswith("0") and part != "0":
        return None
    return int(part)


def _ratio_of(part):
    """The ratio that a part tells, None if it is no number part."""
    ahead, slash, behind = part.partition("/")
    top = _whole_of(ahead)
    if top is None or slash == "":
        return None if top is None else (top, 1)
    bottom = _whole_of(behind)
    if bottom is None or bottom < 2 or gcd(top, bottom) > 1:
        return None
    return (top, bottom)
