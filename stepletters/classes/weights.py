"""Weights of words, and the classes of each weight."""

from stepletters.base.ratios import check_between, is_between
from stepletters.base.series import one_series, over_less, times_less
from stepletters.classes.rows import block_number, step_rank
from stepletters.errors import InvalidOperation, TooMany
from stepletters.towers.towers import check_tower
from stepletters.words.words import MAX_DEGREE, check_letters

MOST_WEIGHT = 40
MAX_WEIGHTED = 60
MAX_WORDS_TOLD = 150
# A word of the weight 60 has at most 60 letters, each of a degree of at most 40.
_MOST_TOLD = 2400


def is_weighting(tower, value):
    """Whether the value is a weighting of the tower."""
    check_tower(tower)
    if not _is_weights(tower.letters, value):
        return False
    for weight, step in zip(value, tower.steps):
        if any([weight_of(value, word) != weight for word in step.terms]):
            return False
    return True


def plain_weighting(letters):
    """The degree of each even letter, and one more than the degree of each odd one."""
    check_letters(letters)
    return tuple([degree + degree % 2 for degree in letters])


def weight_words(letters, weighting, degree, weight):
    """The number of words of a degree and a weight."""
    check_letters(letters)
    _check_weights(letters, weighting)
    _check_place(degree, weight)
    return _counts(letters, weighting, degree, weight).get(degree, 0)


def weight_count(tower, weighting, degree, weight):
    """The number of independent classes of a degree and a weight."""
    _check_weighting(tower, weighting)
    _check_place(degree, weight)
    letters = tower.letters
    counts = _counts(letters, weighting, degree + 1, weight)
    _check_told([counts.get(near, 0) for near in (degree - 1, degree, degree + 1)])
    tables = _tables(letters, weighting, degree, weight)
    words = _listed(letters, weighting, tables, degree, weight)
    return block_number(tower, words, _listed(letters, weighting, tables, degree - 1, weight))


def weight_row(tower, weighting, weight):
    """The numbers of classes of a weight by the degrees in which there are any."""
    _check_weighting(tower, weighting)
    check_between(weight, 0, MAX_WEIGHTED)
    letters = tower.letters
    counts = _counts(letters, weighting, _MOST_TOLD, weight)
    _check_told(list(counts.values()))
    tables = _tables(letters, weighting, _MOST_TOLD, weight)
    ranks = {}
    found = {}
    for degree in sorted(list(counts)):
        ranks[degree] = step_rank(tower, _listed(letters, weighting, tables, degree, weight))
        number = counts[degree] - ranks[degree] - ranks.get(degree - 1, 0)
        if number > 0:
            found[degree] = number
    return found


def signed_number(letters, weighting, weight):
    """The classes of even degrees and a weight, less those of odd degrees."""
    check_letters(letters)
    _check_weights(letters, weighting)
    check_between(weight, 0, MAX_WEIGHTED)
    series = one_series(weight)
    for degree, integer in zip(letters, weighting):
        series = times_less(series, integer) if degree % 2 == 1 else over_less(series, integer)
    return series[weight]


def weight_of(weighting, word):
    """The weight of a word."""
    return sum([integer * exponent for integer, exponent in zip(weighting, word)])


def _is_weights(letters, value):
    if not isinstance(value, tuple) or len(value) != len(letters):
        return False
    return all([is_between(integer, 1, MOST_WEIGHT) for integer in value])


def _check_weights(letters, weighting):
    if not _is_weights(letters, weighting):
        raise InvalidOperation("not an integer from 1 to 40 for each letter")


def _check_weighting(tower, weighting):
    if not is_weighting(tower, weighting):
        raise InvalidOperation("not a weighting of the tower")


def _check_place(degree, weight):
    check_between(degree, 0, MAX_DEGREE)
    check_between(weight, 0, MAX_WEIGHTED)


def _check_told(numbers):
    if any([number > MAX_WORDS_TOLD for number in numbers]):
        raise TooMany(MAX_WORDS_TOLD)


def _counts(letters, weighting, most, weight):
    """The numbers of the words of a weight by their degrees, those up to `most`."""
    rows = _first_rows(weight)
    for degree, integer in zip(letters, weighting):
        rows = _rows_with(rows, degree, integer, most)
    return rows[weight]


def _tables(letters, weighting, most, weight):
    """For each index, and the number of letters, what words in the letters from it on there are.

    It is a list by weights of the numbers of words by their degrees, those up to `most`.
    """
    tables = [_first_rows(weight)]
    for index in reversed(range(len(letters))):
        tables.append(_rows_with(tables[-1], letters[index], weighting[index], most))
    return tables[::-1]


def _first_rows(weight):
    return [{0: 1}] + [{} for _ in range(weight)]


def _rows_with(rows, degree, integer, most):
    found = [{place: row[place] for place in row} for row in rows]
    for weight in range(integer, len(rows)):
        # An even letter can stand again where it stands already, an odd one cannot.
        former = rows[weight - integer] if degree % 2 == 1 else found[weight - integer]
        for at, number in list(former.items()):
            if at + degree <= most:
                found[weight][at + degree] = found[weight].get(at + degree, 0) + number
    return found


def _listed(letters, weighting, tables, degree, weight):
    """All words of a degree and a weight, in any sequence."""
    if degree not in tables[0][weight]:
        return []
    parts = [((), degree, weight)]
    for index, letter in enumerate(letters):
        parts = [more for part in parts for more in _longer(part, letter, weighting[index], tables[index + 1])]
    return [part[0] for part in parts]


def _longer(part, letter, integer, rows):
    """A begun word with what it lacks, with each exponent more with which it can be ended."""
    word, degree, weight = part
    most = weight // integer
    if letter % 2 == 1:
        most = min(most, 1)
    found = []
    for exponent in range(most + 1):
        left = degree - exponent * letter
        if left in rows[weight - exponent * integer]:
            found.append((word + (exponent,), left, weight - exponent * integer))
    return found
