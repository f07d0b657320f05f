"""Grades of plain towers: how many odd letters words have."""

from stepletters.base.echelon import echelon
from stepletters.base.ratios import check_between
from stepletters.classes.rows import block_number, check_listed, step_rank, whole_rows
from stepletters.errors import InvalidOperation, TooMany
from stepletters.plain.ends import check_ending
from stepletters.plain.ideals import bound_of, even_degrees, made_rows, plain_parts
from stepletters.towers.towers import check_tower
from stepletters.words.words import MAX_DEGREE, count_words, listed_words, odd_indices

MOST_GRADE = 24
_MOST_LISTED = 150


def grade_count(tower, grade, degree):
    """The number of independent classes of a grade at a degree."""
    check_tower(tower)
    check_between(grade, 0, MOST_GRADE)
    check_between(degree, 0, MAX_DEGREE)
    _check_plain(tower)
    check_listed(tower.letters, [degree, degree - 1, degree + 1], _MOST_LISTED)
    words = _graded_words(tower.letters, grade, degree)
    return block_number(tower, words, _graded_words(tower.letters, grade + 1, degree - 1))


def left_count(tower, degree):
    """The number of independent classes of the grade 0 at a degree, by even words alone."""
    check_tower(tower)
    check_between(degree, 0, MAX_DEGREE)
    _check_plain(tower)
    evens = even_degrees(tower.letters)
    check_listed(evens, [degree], _MOST_LISTED)
    rows = made_rows(evens, plain_parts(tower), degree)[1]
    return count_words(evens, degree) - len(echelon(whole_rows(rows)))


def grade_row(tower, grade):
    """The numbers of independent classes of a grade at the degrees to the top degree."""
    check_tower(tower)
    check_between(grade, 0, MOST_GRADE)
    _check_plain(tower)
    check_ending(tower)
    top = bound_of(tower.letters)
    if top > MAX_DEGREE:
        raise TooMany(MAX_DEGREE)
    check_listed(tower.letters, list(range(top + 2)), _MOST_LISTED)
    found = []
    before = 0
    for degree in range(top + 1):
        words = _graded_words(tower.letters, grade, degree)
        found.append(len(words) - step_rank(tower, words) - before)
        before = step_rank(tower, _graded_words(tower.letters, grade + 1, degree))
    return tuple(found)


def top_grade(tower):
    """The grade of the class at the top degree."""
    check_tower(tower)
    _check_plain(tower)
    check_ending(tower)
    odds = odd_indices(tower.letters)
    return 2 * len(odds) - tower.size


def _check_plain(tower):
    if not tower.is_plain:
        raise InvalidOperation("the tower is not plain")


def _graded_words(letters, grade, degree):
    """The words of a degree with so many odd letters."""
    odds = odd_indices(letters)
    return [word for word in listed_words(letters, degree) if sum([word[index] for index in odds]) == grade]
