"""Products of units, told as {(i, j): {unit: ratio}} for i <= j, without zeros.

The elements of an algebra are told as {unit: ratio} without zeros; 1 counts as the
unit -1. Nothing here checks what is passed to it, but for `is_products`.
"""

from stepletters.base.exact import ONE, ZERO, added, is_whole, multiplied
from stepletters.base.ratios import as_ratio, is_number

UNIT_ONE = -1


def is_products(size, value):
    """Whether the value is a dict from pairs i <= j of so many units to dicts from units to numbers."""
    if not isinstance(value, dict):
        return False
    for pair, made in value.items():
        if not isinstance(pair, tuple) or len(pair) != 2 or not all([is_whole(unit) for unit in pair]):
            return False
        if not 0 <= pair[0] <= pair[1] < size or not isinstance(made, dict):
            return False
        if not all([is_whole(unit) and 0 <= unit < size for unit in made]):
            return False
        if not all([is_number(number) for number in made.values()]):
            return False
    return True


def told_products(products):
    """The products other than 0, ascending, of what `is_products` accepts."""
    found = {}
    for pair in sorted(list(products)):
        made = {unit: as_ratio(products[pair][unit]) for unit in sorted(list(products[pair]))}
        made = {unit: number for unit, number in made.items() if number != ZERO}
        if len(made) > 0:
            found[pair] = made
    return found


def degree_of_unit(degrees, unit):
    """The degree of a unit, 0 for 1."""
    return 0 if unit == UNIT_ONE else degrees[unit]


def unit_product(degrees, products, one, other):
    """The product of two units."""
    if one == UNIT_ONE:
        return {other: ONE}
    if other == UNIT_ONE:
        return {one: ONE}
    if one <= other:
        return products.get((one, other), {})
    made = products.get((other, one), {})
    if degrees[one] % 2 == 1 and degrees[other] % 2 == 1:
        return {unit: (-number[0], number[1]) for unit, number in made.items()}
    return made


def joined_units(degrees, products, one, other):
    """The product of two elements."""
    found = {}
    for left, number in one.items():
        for right, factor in other.items():
            size = multiplied(number, factor)
            for unit, part in unit_product(degrees, products, left, right).items():
                found[unit] = added(found.get(unit, ZERO), multiplied(size, part))
    return {unit: number for unit, number in found.items() if number != ZERO}


def first_fault(degrees, products):
    """The first fault of products, None if there is none."""
    for one, other in sorted(list(products)):
        if any([degrees[unit] != degrees[one] + degrees[other] for unit in products[(one, other)]]):
            return ("degree", one, other)
    for unit, degree in enumerate(degrees):
        if degree % 2 == 1 and (unit, unit) in products:
            return ("square", unit)
    for one in range(len(degrees)):
        for other in range(len(degrees)):
            for third in range(len(degrees)):
                # Above the greatest degree there are no units, so all products are 0.
                if degrees[one] + degrees[other] + degrees[third] > degrees[-1]:
                    break
                if not _is_free_of_brackets(degrees, products, one, other, third):
                    return ("bracket", one, other, third)
    return None


def row_of_numbers(numbers):
    """The element with a number for 1 and one for each unit."""
    ratios = [as_ratio(number) for number in numbers]
    return {at - 1: ratio for at, ratio in enumerate(ratios) if ratio != ZERO}


def numbers_of_row(row, size):
    """The ratios of 1 and of each of so many units in an element."""
    return tuple([row.get(unit, ZERO) for unit in range(UNIT_ONE, size)])


def _is_free_of_brackets(degrees, products, one, other, third):
    ahead = joined_units(degrees, products, unit_product(degrees, products, one, other), {third: ONE})
    behind = joined_units(degrees, products, {one: ONE}, unit_product(degrees, products, other, third))
    return ahead == behind
