"""Classes: closed sums of one degree, up to steps, with papers that show them.

A sum of a degree is worked with as a row: the numbers of the words of this
degree, by their places in the ascending sequence of these words.
"""

from stepletters.base.echelon import pairing, take_in
from stepletters.base.exact import is_whole, whole_multiple
from stepletters.base.ratios import check_between
from stepletters.classes.rows import basis_lot, block_number, check_listed, closed_rows, is_closed_level
from stepletters.classes.rows import ratios_in_basis, row_of_sum, source_of, step_lot, step_rank, step_rows
from stepletters.classes.rows import sum_of_row, telling_row, whole_rows
from stepletters.errors import InvalidOperation, TooMany
from stepletters.towers.towers import check_tower
from stepletters.words.sums import check_sum, is_sum
from stepletters.words.words import count_words, listed_words

MAX_LISTED = 150
MAX_CLASSED = 60


def closed_count(tower, degree):
    """The dimension of the closed sums of a degree."""
    _check_degree(tower, degree)
    return count_words(tower.letters, degree) - _step_number(tower, degree + 1)


def step_count(tower, degree):
    """The dimension of the steps of a degree."""
    _check_degree(tower, degree)
    return _step_number(tower, degree)


def class_count(tower, degree):
    """The number of independent classes of a degree."""
    _check_degree(tower, degree)
    return block_number(tower, listed_words(tower.letters, degree), listed_words(tower.letters, degree - 1))


def class_row(tower, most):
    """The class numbers of the degrees from 0 to `most`."""
    check_tower(tower)
    check_between(most, 0, MAX_CLASSED)
    check_listed(tower.letters, list(range(most + 2)), MAX_LISTED)
    numbers = [_step_number(tower, degree) for degree in range(most + 2)]
    words = [count_words(tower.letters, degree) for degree in range(most + 1)]
    return tuple([words[at] - numbers[at] - numbers[at + 1] for at in range(most + 1)])


def class_basis(tower, degree):
    """A tuple of closed sums of a degree with independent classes, as many as there are."""
    _check_degree(tower, degree)
    words = listed_words(tower.letters, degree)
    lot = step_lot(tower, degree)
    found = []
    for row in closed_rows(tower, degree):
        if take_in(lot, row):
            found.append(sum_of_row(tower.letters, words, row))
    return tuple(found)


def is_class_basis(tower, degree, value):
    """Whether the value is a class basis of a degree."""
    _check_degree(tower, degree)
    if not isinstance(value, tuple):
        return False
    if not all([is_closed_level(tower, a_sum) and a_sum.degree == degree for a_sum in value]):
        return False
    return basis_lot(tower, degree, value) is not None


def class_paper(tower, a_sum):
    """A paper that a closed level sum is a step, or that it is none."""
    _check_closed(tower, a_sum)
    if len(a_sum) == 0:
        return ("step", a_sum)
    source = source_of(tower, a_sum.degree, a_sum)
    if source is not None:
        return ("step", source)
    words = listed_words(tower.letters, a_sum.degree)
    rows = whole_rows(step_rows(tower, a_sum.degree - 1))
    return ("test", telling_row(rows, whole_multiple(row_of_sum(words, a_sum)), len(words)))


def is_class_paper(tower, a_sum, value):
    """Whether the value is a paper of a closed level sum."""
    _check_closed(tower, a_sum)
    if not isinstance(value, tuple) or len(value) != 2:
        return False
    if value[0] == "step":
        return is_sum(tower.letters, value[1]) and tower.step(value[1]) == a_sum
    if value[0] == "test" and len(a_sum) > 0:
        return _is_test(tower, a_sum, value[1])
    return False


def coordinates(tower, basis, a_sum):
    """The ratios by which a closed sum is made by a class basis, up to a step."""
    check_tower(tower)
    degree = _basis_degree(tower, basis)
    check_sum(tower.letters, a_sum)
    if len(a_sum) > 0 and not is_closed_level(tower, a_sum):
        raise InvalidOperation("the sum is not closed or not level")
    if degree is None:
        degree = a_sum.degree
    if degree is None:
        return ()
    if len(a_sum) > 0 and a_sum.degree != degree:
        raise InvalidOperation("the sum does not have the degree of the basis")
    _check_listed_beside(tower, degree)
    lot = basis_lot(tower, degree, basis)
    if lot is None:
        raise InvalidOperation("the sums are no class basis")
    words = listed_words(tower.letters, degree)
    return ratios_in_basis(lot, len(words), len(basis), row_of_sum(words, a_sum))


def _check_degree(tower, degree):
    check_tower(tower)
    check_between(degree, 0, MAX_CLASSED)
    _check_listed_beside(tower, degree)


def _check_closed(tower, a_sum):
    check_tower(tower)
    check_sum(tower.letters, a_sum)
    if len(a_sum) > 0:
        if not is_closed_level(tower, a_sum):
            raise InvalidOperation("the sum is not closed or not level")
        _check_listed_beside(tower, a_sum.degree)


def _check_listed_beside(tower, degree):
    if degree > MAX_CLASSED:
        raise TooMany(MAX_CLASSED)
    check_listed(tower.letters, [degree - 1, degree, degree + 1], MAX_LISTED)


def _basis_degree(tower, basis):
    """The degree of the sums of a basis, None for a basis without sums."""
    if not isinstance(basis, tuple) or not all([is_closed_level(tower, base) for base in basis]):
        raise InvalidOperation("not a tuple of closed level sums other than 0")
    degrees = sorted({base.degree for base in basis})
    if len(degrees) > 1:
        raise InvalidOperation("the sums of the basis have several degrees")
    return degrees[0] if len(degrees) == 1 else None


def _step_number(tower, degree):
    return step_rank(tower, listed_words(tower.letters, degree - 1))


def _is_test(tower, a_sum, integers):
    words = listed_words(tower.letters, a_sum.degree)
    if not isinstance(integers, tuple) or len(integers) != len(words):
        return False
    if not all([is_whole(number) for number in integers]):
        return False
    if any([pairing(integers, row) != 0 for row in whole_rows(step_rows(tower, a_sum.degree - 1))]):
        return False
    return pairing(integers, whole_multiple(row_of_sum(words, a_sum))) != 0
