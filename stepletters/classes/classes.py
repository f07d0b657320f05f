"""Classes: closed sums of one degree, up to steps, with papers that show them.

A sum of a degree is worked with as a row: the numbers of the words of this
degree, by their places in the ascending sequence of these words.
"""

from stepletters.base.echelon import dense, echelon, kernel_rows, pairing, solved, take_in, turned
from stepletters.base.exact import is_whole, whole_multiple
from stepletters.base.ratios import check_between
from stepletters.errors import InvalidOperation, TooMany
from stepletters.towers.steps import step_of_word
from stepletters.towers.towers import check_tower, step_dicts
from stepletters.words.sums import check_sum, is_sum, made_sum
from stepletters.words.words import count_words, listed_words

MAX_LISTED = 150
MAX_CLASSED = 60


def closed_count(tower, degree):
    """The dimension of the closed sums of a degree."""
    _check_degree(tower, degree)
    return count_words(tower.letters, degree) - _step_number(tower, degree + 1)


def step_count(tower, degree):
    """The dimension of the steps of a degree."""
    _check_degree(tower, degree)
    return _step_number(tower, degree)


def class_count(tower, degree):
    """The number of independent classes of a degree."""
    _check_degree(tower, degree)
    return _class_number(tower, degree)


def class_row(tower, most):
    """The class numbers of the degrees from 0 to `most`."""
    check_tower(tower)
    check_between(most, 0, MAX_CLASSED)
    _check_listed(tower.letters, list(range(most + 2)))
    numbers = [_step_number(tower, degree) for degree in range(most + 2)]
    words = [count_words(tower.letters, degree) for degree in range(most + 1)]
    return tuple([words[at] - numbers[at] - numbers[at + 1] for at in range(most + 1)])


def class_basis(tower, degree):
    """A tuple of closed sums of a degree with independent classes, as many as there are."""
    _check_degree(tower, degree)
    words = listed_words(tower.letters, degree)
    lot = echelon(_whole_step_rows(tower, degree - 1))
    found = []
    for row in kernel_rows(_whole_rows(turned(_step_rows(tower, degree))), len(words)):
        if take_in(lot, row):
            numbers = {words[at]: (number, 1) for at, number in row.items()}
            found.append(made_sum(tower.letters, numbers))
    return tuple(found)


def is_class_basis(tower, degree, value):
    """Whether the value is a class basis of a degree."""
    _check_degree(tower, degree)
    if not isinstance(value, tuple):
        return False
    if not all([_is_closed_level(tower, a_sum) and a_sum.degree == degree for a_sum in value]):
        return False
    return _is_basis(tower, degree, value)


def class_paper(tower, a_sum):
    """A paper that a closed level sum is a step, or that it is none."""
    _check_closed(tower, a_sum)
    if len(a_sum) == 0:
        return ("step", a_sum)
    words = listed_words(tower.letters, a_sum.degree)
    rows = _step_rows(tower, a_sum.degree - 1)
    wanted = _row_of_sum(words, a_sum)
    ratios = _solved_rows(rows, wanted)
    if ratios is None:
        return ("test", _test_of_rows(_whole_rows(rows), whole_multiple(wanted), len(words)))
    before = listed_words(tower.letters, a_sum.degree - 1)
    return ("step", made_sum(tower.letters, {word: ratio for word, ratio in zip(before, ratios)}))


def is_class_paper(tower, a_sum, value):
    """Whether the value is a paper of a closed level sum."""
    _check_closed(tower, a_sum)
    if not isinstance(value, tuple) or len(value) != 2:
        return False
    if value[0] == "step":
        return is_sum(tower.letters, value[1]) and tower.step(value[1]) == a_sum
    if value[0] == "test" and len(a_sum) > 0:
        return _is_test(tower, a_sum, value[1])
    return False


def coordinates(tower, basis, a_sum):
    """The ratios by which a closed sum is made by a class basis, up to a step."""
    check_tower(tower)
    degree = _basis_degree(tower, basis)
    check_sum(tower.letters, a_sum)
    if len(a_sum) > 0 and not _is_closed_level(tower, a_sum):
        raise InvalidOperation("the sum is not closed or not level")
    if degree is None:
        degree = a_sum.degree
    if degree is None:
        return ()
    if len(a_sum) > 0 and a_sum.degree != degree:
        raise InvalidOperation("the sum does not have the degree of the basis")
    _check_listed_beside(tower, degree)
    if not _is_basis(tower, degree, basis):
        raise InvalidOperation("the sums are no class basis")
    words = listed_words(tower.letters, degree)
    rows = [_row_of_sum(words, base) for base in basis] + _step_rows(tower, degree - 1)
    ratios = _solved_rows(rows, _row_of_sum(words, a_sum))
    return tuple(ratios[:len(basis)])


def _check_degree(tower, degree):
    check_tower(tower)
    check_between(degree, 0, MAX_CLASSED)
    _check_listed_beside(tower, degree)


def _check_closed(tower, a_sum):
    check_tower(tower)
    check_sum(tower.letters, a_sum)
    if len(a_sum) > 0:
        if not _is_closed_level(tower, a_sum):
            raise InvalidOperation("the sum is not closed or not level")
        _check_listed_beside(tower, a_sum.degree)


def _check_listed_beside(tower, degree):
    if degree > MAX_CLASSED:
        raise TooMany(MAX_CLASSED)
    _check_listed(tower.letters, [degree - 1, degree, degree + 1])


def _check_listed(letters, degrees):
    if any([count_words(letters, degree) > MAX_LISTED for degree in degrees]):
        raise TooMany(MAX_LISTED)


def _is_closed_level(tower, value):
    """Whether the value is a closed level sum other than 0 in the letters of the tower."""
    return is_sum(tower.letters, value) and value.degree is not None and tower.is_closed(value)


def _basis_degree(tower, basis):
    """The degree of the sums of a basis, None for a basis without sums."""
    if not isinstance(basis, tuple) or not all([_is_closed_level(tower, base) for base in basis]):
        raise InvalidOperation("not a tuple of closed level sums other than 0")
    degrees = sorted({base.degree for base in basis})
    if len(degrees) > 1:
        raise InvalidOperation("the sums of the basis have several degrees")
    return degrees[0] if len(degrees) == 1 else None


def _step_rows(tower, degree):
    """The steps of all words of a degree, as rows of ratios of the degree one higher."""
    steps = step_dicts(tower)
    places = {word: at for at, word in enumerate(listed_words(tower.letters, degree + 1))}
    found = []
    for word in listed_words(tower.letters, degree):
        numbers = step_of_word(tower.letters, steps, word)
        found.append({places[other]: number for other, number in numbers.items()})
    return found


def _whole_rows(rows):
    return [whole_multiple(row) for row in rows]


def _whole_step_rows(tower, degree):
    return _whole_rows(_step_rows(tower, degree))


def _solved_rows(rows, wanted):
    """Ratios by which rows of ratios make a further one, None if they do not."""
    return solved(_whole_rows(turned(rows + [wanted])), len(rows))


def _test_of_rows(rows, wanted, width):
    """Integers whose pairing with rows is 0, and with a row that they do not make is not."""
    for row in kernel_rows(rows, width):
        test = dense(row, width)
        if pairing(test, wanted) != 0:
            return test
    return None


def _step_number(tower, degree):
    return len(echelon(_whole_step_rows(tower, degree - 1)))


def _class_number(tower, degree):
    words = count_words(tower.letters, degree)
    return words - _step_number(tower, degree) - _step_number(tower, degree + 1)


def _is_basis(tower, degree, sums):
    """Whether closed sums of a degree are one for each class, and independent."""
    words = listed_words(tower.letters, degree)
    lot = echelon(_whole_step_rows(tower, degree - 1))
    if len(sums) != len(words) - len(lot) - _step_number(tower, degree + 1):
        return False
    for a_sum in sums:
        if not take_in(lot, whole_multiple(_row_of_sum(words, a_sum))):
            return False
    return True


def _is_test(tower, a_sum, integers):
    words = listed_words(tower.letters, a_sum.degree)
    if not isinstance(integers, tuple) or len(integers) != len(words):
        return False
    if not all([is_whole(number) for number in integers]):
        return False
    if any([pairing(integers, row) != 0 for row in _whole_step_rows(tower, a_sum.degree - 1)]):
        return False
    return pairing(integers, whole_multiple(_row_of_sum(words, a_sum))) != 0


def _row_of_sum(words, a_sum):
    numbers = a_sum.terms
    return {at: numbers[word] for at, word in enumerate(words) if word in numbers}
