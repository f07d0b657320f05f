"""Tables of brackets, and the towers with letters of the degree 1 that they tell.

Inside, brackets are told as {(i, j): {unit: ratio}} for i < j, and elements of the
space of all units as {unit: ratio}, without zeros.
"""

from stepletters.base.echelon import echelon
from stepletters.base.exact import ONE, ZERO, added, is_whole, multiplied
from stepletters.base.ratios import as_ratio, is_number
from stepletters.classes.classes import class_basis
from stepletters.classes.rings import independent_products
from stepletters.classes.rows import step_lot, whole_rows
from stepletters.errors import InvalidOperation, InvalidTable, Refused
from stepletters.towers.towers import Tower, check_tower
from stepletters.words.words import listed_words

MOST_UNITS = 8


def brackets_fault(table):
    """The first three units for which Jacobi's rule does not hold, None if it always does."""
    _check_table(table)
    return _first_fault(_told(table), len(table))


def is_brackets(value):
    """Whether the value is a right brackets table."""
    return _is_table(value) and _first_fault(_told(value), len(value)) is None


def bracket_of(table, one, other):
    """The bracket of two tuples of a number for each unit."""
    _check_table(table)
    size = len(table)
    _check_numbers(one, size)
    _check_numbers(other, size)
    found = _bracket(_told(table), _nonzero(one), _nonzero(other))
    return tuple([found.get(unit, ZERO) for unit in range(size)])


def tower_of_brackets(table):
    """The tower of a right table, with a letter of the degree 1 for each unit."""
    _checked_told(table)
    size = len(table)
    steps = []
    for row in table:
        steps.append({_pair_word(pair, size): number for pair, number in row.items()})
    return Tower((1,) * size, tuple(steps))


def brackets_of(tower):
    """The table with a tower of at most eight letters of the degree 1."""
    _check_ones(tower)
    return tuple([_pair_row(step) for step in tower.steps])


def falling_row(table):
    """The dimensions of the falling spaces of a right table, to the last one that is not 0."""
    told = _checked_told(table)
    size = len(table)
    space = [{unit: ONE} for unit in range(size)]
    found = []
    while len(space) > 0:
        found.append(len(space))
        made = [_bracket(told, {unit: ONE}, other) for unit in range(size) for other in space]
        rows = list(echelon(whole_rows(made)).values())
        space = [{unit: (number, 1) for unit, number in row.items()} for row in rows]
    return tuple(found)


def is_like_ring(tower):
    """Whether all classes of the tower are sums of products of those of the degree 1, and of 1."""
    _check_ones(tower)
    # By [12.6] this is so exactly if all steps are 0.
    return all([len(step) == 0 for step in tower.steps])


def reach(tower):
    """The greatest number of classes of the degree 1 with a product that is not 0."""
    _check_ones(tower)
    makers = class_basis(tower, 1)
    layer = list(makers)
    found = 0
    while len(layer) > 0:
        found += 1
        words = listed_words(tower.letters, found + 1)
        pairs = [(one, other) for one in makers for other in layer]
        layer, _ = independent_products(tower, (words, step_lot(tower, found + 1)), pairs, len(words))
    return found


def _is_table(value):
    if not isinstance(value, tuple) or len(value) > MOST_UNITS:
        return False
    return all([_is_row(row, unit) for unit, row in enumerate(value)])


def _is_row(value, unit):
    if not isinstance(value, dict):
        return False
    for pair, number in value.items():
        if not isinstance(pair, tuple) or len(pair) != 2 or not all([is_whole(part) for part in pair]):
            return False
        if not 0 <= pair[0] < pair[1] < unit:
            return False
        if not is_number(number) or as_ratio(number) == ZERO:
            return False
    return True


def _check_table(table):
    if not _is_table(table):
        raise InvalidTable("not a tuple of at most eight dicts from pairs of lesser units to numbers")


def _check_numbers(value, size):
    if not isinstance(value, tuple) or len(value) != size or not all([is_number(number) for number in value]):
        raise InvalidOperation("not a tuple of a number for each unit")


def _check_ones(tower):
    check_tower(tower)
    if tower.size > MOST_UNITS or any([degree != 1 for degree in tower.letters]):
        raise InvalidOperation("not at most eight letters, all of the degree 1")


def _checked_told(table):
    """The brackets of a table; the errors for one that is not right."""
    _check_table(table)
    told = _told(table)
    fault = _first_fault(told, len(table))
    if fault is not None:
        raise Refused(("jacobi",) + fault)
    return told


def _told(table):
    found = {}
    for unit, row in enumerate(table):
        for pair, number in row.items():
            if pair not in found:
                found[pair] = {}
            found[pair][unit] = as_ratio(number)
    return found


def _nonzero(numbers):
    ratios = [as_ratio(number) for number in numbers]
    return {unit: ratio for unit, ratio in enumerate(ratios) if ratio != ZERO}


def _bracket(told, one, other):
    found = {}
    for left, number in one.items():
        for right, factor in other.items():
            sign = (1 if left < right else -1, 1)
            size = multiplied(sign, multiplied(number, factor))
            for unit, part in told.get((min(left, right), max(left, right)), {}).items():
                found[unit] = added(found.get(unit, ZERO), multiplied(size, part))
    return {unit: number for unit, number in found.items() if number != ZERO}


def _first_fault(told, size):
    for a in range(size):
        for b in range(a + 1, size):
            for c in range(b + 1, size):
                if not _is_jacobi(told, a, b, c):
                    return (a, b, c)
    return None


def _is_jacobi(told, a, b, c):
    total = {}
    for one, two, three in ((a, b, c), (b, c, a), (c, a, b)):
        inner = _bracket(told, {two: ONE}, {three: ONE})
        for unit, number in _bracket(told, {one: ONE}, inner).items():
            total[unit] = added(total.get(unit, ZERO), number)
    return all([number == ZERO for number in total.values()])


def _pair_word(pair, size):
    return tuple([1 if unit in pair else 0 for unit in range(size)])


def _pair_row(step):
    pairs = {}
    for word, number in step:
        first, second = [unit for unit, exponent in enumerate(word) if exponent == 1]
        pairs[(first, second)] = number
    return {pair: pairs[pair] for pair in sorted(list(pairs))}
