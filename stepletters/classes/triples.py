"""Triples: what three closed sums tell whose products, two by two, are steps."""

from stepletters.base.echelon import pairing
from stepletters.base.exact import ZERO, added, is_whole, multiplied, whole_multiple
from stepletters.classes.rows import check_listed, closed_rows, is_closed_level, row_of_sum, solved_rows
from stepletters.classes.rows import source_of, step_rows, sum_of_row, telling_row, whole_rows
from stepletters.errors import InvalidOperation, Refused, TooMany
from stepletters.towers.towers import check_tower
from stepletters.words.sums import check_sum, is_sum, joined_numbers, made_sum
from stepletters.words.words import listed_words

MAX_LISTED = 150
MAX_TOLD = 80


def triple(tower, one, two, three):
    """A triple: a sum whose step is the first product, and one whose step is the second one."""
    _check_three(tower, one, two, three)
    first = source_of(tower, one.degree + two.degree, _product(one, two))
    if first is None:
        raise Refused(("first",))
    second = source_of(tower, two.degree + three.degree, _product(two, three))
    if second is None:
        raise Refused(("second",))
    return (first, second)


def is_triple(tower, one, two, three, value):
    """Whether the value is a triple."""
    _check_three(tower, one, two, three)
    return _is_triple(tower, one, two, three, value)


def triple_sum(tower, one, two, three, pair):
    """The triple sum of a triple."""
    _check_three(tower, one, two, three)
    if not _is_triple(tower, one, two, three, pair):
        raise InvalidOperation("the pair is no triple")
    return _triple_sum(one, three, pair)


def triple_paper(tower, one, two, three):
    """A paper that the triple sum of some triple is a step, or that none is."""
    first, second = triple(tower, one, two, three)
    total = one.degree + two.degree + three.degree - 1
    words = listed_words(tower.letters, total)
    left, right = _further_sums(tower, one, two, three)
    steps = step_rows(tower, total - 1)
    rows = steps + [row_of_sum(words, product) for product in _further_products(one, three, left, right)]
    wanted = row_of_sum(words, _triple_sum(one, three, (first, second)))
    ratios = solved_rows(rows, wanted)
    if ratios is None:
        return ("test", first, second, telling_row(whole_rows(rows), whole_multiple(wanted), len(words)))
    before = listed_words(tower.letters, total - 1)
    source = made_sum(tower.letters, {word: ratio for word, ratio in zip(before, ratios)})
    behind = _combined(tower, right, ratios[len(steps) + len(left):])
    first = first - _combined(tower, left, ratios[len(steps):])
    second = second + behind if one.degree % 2 == 0 else second - behind
    return ("zero", first, second, source)


def is_triple_paper(tower, one, two, three, value):
    """Whether the value is a triple paper."""
    _check_three(tower, one, two, three)
    if not isinstance(value, tuple) or len(value) != 4 or value[0] not in ("zero", "test"):
        return False
    if not _is_triple(tower, one, two, three, value[1:3]):
        return False
    total = one.degree + two.degree + three.degree - 1
    told = _triple_sum(one, three, value[1:3])
    if value[0] == "zero":
        return _is_source(tower, total, told, value[3])
    words = listed_words(tower.letters, total)
    integers = value[3]
    if not isinstance(integers, tuple) or len(integers) != len(words):
        return False
    if not all([is_whole(number) for number in integers]):
        return False
    if pairing(integers, whole_multiple(row_of_sum(words, told))) == 0:
        return False
    return _is_blind(tower, one, two, three, integers)


def _check_three(tower, one, two, three):
    check_tower(tower)
    for a_sum in (one, two, three):
        check_sum(tower.letters, a_sum)
    if not all([is_closed_level(tower, a_sum) for a_sum in (one, two, three)]):
        raise InvalidOperation("not three closed level sums other than 0")
    total = one.degree + two.degree + three.degree - 1
    if total > MAX_TOLD:
        raise TooMany(MAX_TOLD)
    near = [one.degree + two.degree, two.degree + three.degree, total]
    check_listed(tower.letters, near + [degree - 1 for degree in near], MAX_LISTED)


def _product(one, other):
    """The product of two sums, however many words they have."""
    return made_sum(one.letters, joined_numbers(one.letters, one.terms, other.terms))


def _is_triple(tower, one, two, three, value):
    if not isinstance(value, tuple) or len(value) != 2:
        return False
    if not _is_source(tower, one.degree + two.degree, _product(one, two), value[0]):
        return False
    return _is_source(tower, two.degree + three.degree, _product(two, three), value[1])


def _is_source(tower, degree, a_sum, value):
    """Whether the value is a sum of the degree less 1, or 0, whose step is a sum."""
    if not is_sum(tower.letters, value):
        return False
    if len(value) > 0 and value.degree != degree - 1:
        return False
    return tower.step(value) == a_sum


def _triple_sum(one, three, pair):
    ahead, behind = _product(pair[0], three), _product(one, pair[1])
    return ahead - behind if one.degree % 2 == 0 else ahead + behind


def _further_sums(tower, one, two, three):
    """What can be added to both sums of a triple: closed sums that make all of their degrees."""
    degrees = (one.degree + two.degree - 1, two.degree + three.degree - 1)
    return [_closed_sums(tower, degree) for degree in degrees]


def _further_products(one, three, left, right):
    """What adding such sums adds to the triple sum, but for signs."""
    return [_product(a_sum, three) for a_sum in left] + [_product(one, a_sum) for a_sum in right]


def _closed_sums(tower, degree):
    """Independent closed sums that make all of a degree."""
    words = listed_words(tower.letters, degree)
    return [sum_of_row(tower.letters, words, row) for row in closed_rows(tower, degree)]


def _combined(tower, sums, ratios):
    """The sum of some sums, each times its ratio."""
    found = {}
    for a_sum, ratio in zip(sums, ratios):
        for word, number in a_sum:
            found[word] = added(found.get(word, ZERO), multiplied(number, ratio))
    return made_sum(tower.letters, found)


def _is_blind(tower, one, two, three, integers):
    """Whether integers tell 0 of all steps, and of all that can be added to the triple sum."""
    total = one.degree + two.degree + three.degree - 1
    words = listed_words(tower.letters, total)
    left, right = _further_sums(tower, one, two, three)
    rows = step_rows(tower, total - 1)
    rows = rows + [row_of_sum(words, product) for product in _further_products(one, three, left, right)]
    return all([pairing(integers, row) == 0 for row in whole_rows(rows)])
