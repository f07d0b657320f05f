"""Loop series: what counts the letters of least towers without any tower."""

from stepletters.base.ratios import check_between, is_between, is_integer
from stepletters.base.series import one_series
from stepletters.errors import InvalidLetters, InvalidOperation
from stepletters.words.words import MAX_LETTER, is_letters

MOST_LOOP = 60
MOST_UNITS = 12
_LEAST_DEGREE = 2
_MOST_COUNT = 1000


def loop_series(letters, most):
    """The loop series of letters up to t ** `most`."""
    if not is_letters(letters) or 1 in letters:
        raise InvalidLetters("not letters of degrees from 2 on")
    check_between(most, 0, MOST_LOOP)
    return _series_of([letters.count(degree) for degree in range(_LEAST_DEGREE, MAX_LETTER + 1)], most)


def counts_of_series(series):
    """The letter counts of a series that begins with 1."""
    if not isinstance(series, tuple) or not 1 <= len(series) <= MOST_LOOP + 1:
        raise InvalidOperation("not a tuple of 1 to 61 integers")
    if not all([is_integer(entry) for entry in series]) or series[0] != 1:
        raise InvalidOperation("not integers, the first one 1")
    return _counts_of(series)


def series_of_counts(counts):
    """The series that has some letter counts."""
    if not isinstance(counts, tuple) or len(counts) > MOST_LOOP:
        raise InvalidOperation("not a tuple of at most 60 integers")
    if not all([is_between(count, -_MOST_COUNT, _MOST_COUNT) for count in counts]):
        raise InvalidOperation("not integers from -1000 to 1000")
    return _series_of(counts, len(counts))


def free_counts(degrees, most):
    """How many letters least towers have for units of some degrees with the products 0."""
    if not isinstance(degrees, tuple) or len(degrees) > MOST_UNITS:
        raise InvalidOperation("not a tuple of at most 12 degrees")
    if not all([is_between(degree, _LEAST_DEGREE, MAX_LETTER) for degree in degrees]):
        raise InvalidOperation("not degrees from 2 to 40")
    check_between(most, 0, MOST_LOOP)
    parts = {}
    for degree in degrees:
        parts[degree - 1] = parts.get(degree - 1, 0) + 1
    return _counts_to(parts, most)


def paired_counts(many, degree, most):
    """The same for paired units of one degree, and one unit of the degree twice as high."""
    check_between(many, 2, MOST_UNITS)
    check_between(degree, _LEAST_DEGREE, MAX_LETTER)
    check_between(most, 0, MOST_LOOP)
    if degree % 2 == 1 and many % 2 == 1:
        raise InvalidOperation("with an odd degree there are not evenly many units")
    return _counts_to({degree - 1: many, 2 * degree - 2: -1}, most)


def _counts_to(parts, most):
    """The letter counts to a degree of the series 1 / (1 - s), s being told as {exponent: number}."""
    series = one_series(max(most - 1, 0))
    for at in range(1, len(series)):
        series[at] = sum([number * series[at - size] for size, number in parts.items() if size <= at])
    return _counts_of(series)


def _counts_of(series):
    """The exponents of the factors of a series, for the degrees 2, 3 and so on."""
    rest = list(series)
    counts = []
    for size in range(1, len(rest)):
        count = rest[size]
        counts.append(count)
        rest = _with_factor(rest, size, -count)
    return tuple(counts)


def _series_of(counts, most):
    """The product of the factors with some exponents, for the degrees 2, 3 and so on."""
    series = one_series(most)
    for at, count in enumerate(counts):
        series = _with_factor(series, at + 1, count)
    return tuple(series)


def _with_factor(series, size, count):
    """The series times the factor of the degree `size` + 1, so many times; it is divided below 0."""
    # It is a power of 1 + t ** size, or for an even size of 1 - t ** size, with an integer as exponent.
    sign, exponent = (1, count) if size % 2 == 1 else (-1, -count)
    found = list(series)
    number = 1
    for many in range(1, (len(series) - 1) // size + 1):
        number = sign * number * (exponent - many + 1) // many
        for at in range(many * size, len(series)):
            found[at] = found[at] + number * series[at - many * size]
    return found
