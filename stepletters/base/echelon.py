"""Rows of integers of any size, told as {column: integer} without zeros.

A reduced lot of rows is a dict {lead: row}: the lead is the least column of its
row, the row has no common divisor above 1 and is above 0 at the lead, and no
other row of the lot has that column. Short rows make long computations short,
so common divisors are taken out behind each step.
"""

from math import gcd, lcm

from stepletters.base.exact import ZERO, reduced

_PRIME = 2 ** 31 - 1


def echelon(rows):
    """The reduced lot that makes the same rows as the given ones."""
    lot = {}
    for row in rows:
        take_in(lot, row)
    return lot


def take_in(lot, row):
    """Take a row into a lot; whether the lot did not make it before."""
    rest = left_over(lot, row)
    if len(rest) == 0:
        return False
    column = min(list(rest))
    for lead in list(lot):
        if column in lot[lead]:
            lot[lead] = _without_column(lot[lead], rest, column)
    lot[column] = rest
    return True


def left_over(lot, row):
    """A multiple of what is left of a row without the leads of a lot, {} if the lot makes it."""
    leads = [column for column in row if column in lot]
    scale = 1
    for lead in leads:
        size = lot[lead][lead]
        scale = lcm(scale, size // gcd(size, row[lead]))
    rest = {column: scale * number for column, number in row.items()}
    for lead in leads:
        _take_away(rest, rest[lead] // lot[lead][lead], lot[lead])
    return _shortest(rest)


def independent_places(rows, width):
    """Places of rows that are independent up to multiples of one prime.

    So they are independent at all. That there are more such rows at all is rare, and
    as the numbers stay short, they are found much faster than a reduced lot.
    """
    lot = {}
    found = []
    for at, row in enumerate(rows):
        if len(found) == width:
            break
        rest = {column: number % _PRIME for column, number in row.items() if number % _PRIME != 0}
        while len(rest) > 0 and min(list(rest)) in lot:
            column = min(list(rest))
            _take_away_by_prime(rest, rest[column], lot[column])
        if len(rest) > 0:
            column = min(list(rest))
            inverse = _inverse_by_prime(rest[column])
            lot[column] = {place: number * inverse % _PRIME for place, number in rest.items()}
            found.append(at)
    return found


def are_all_made(rows, width):
    """Whether rows make each row of the width."""
    return len(independent_places(rows, width)) == width or len(echelon(rows)) == width


def kernel_rows(rows, width):
    """The reduced rows, leads ascending, whose pairing with each given row is 0."""
    # With the columns turned round the leads are the last columns that can be leads,
    # and a row of the kernel has its other columns behind its own lead.
    lot = echelon([{-column: number for column, number in row.items()} for row in rows])
    return [_kernel_row(lot, column) for column in range(width) if -column not in lot]


def solved(equations, size):
    """Ratios for the unknowns 0 to size - 1, None if there are none.

    An equation is a row: the numbers of the unknowns, and at the column `size` what
    they add up to. An unknown that is left free is 0.
    """
    lot = echelon(equations)
    if size in lot:
        return None
    found = [ZERO] * size
    for lead, row in lot.items():
        found[lead] = reduced(row.get(size, 0), row[lead])
    return found


def turned(rows):
    """The columns of some rows as rows, in any sequence, without those that are empty."""
    found = {}
    for at, row in enumerate(rows):
        for column, number in row.items():
            if column not in found:
                found[column] = {}
            found[column][at] = number
    return list(found.values())


def sparse(numbers):
    """The row of some integers in their order."""
    return {column: number for column, number in enumerate(numbers) if number != 0}


def dense(row, width):
    """The tuple of all integers of a row."""
    return tuple([row.get(column, 0) for column in range(width)])


def pairing(numbers, row):
    """The sum of the products of integers in their order and those of a row."""
    return sum([numbers[column] * number for column, number in row.items()])


def _kernel_row(lot, free):
    parts = {lead: row for lead, row in lot.items() if -free in row}
    scale = 1
    for lead, row in parts.items():
        scale = lcm(scale, row[lead] // gcd(row[lead], row[-free]))
    found = {-lead: -row[-free] * scale // row[lead] for lead, row in parts.items()}
    found[free] = scale
    return found


def _without_column(row, other, column):
    common = gcd(row[column], other[column])
    size = other[column] // common
    factor = row[column] // common
    rest = {at: size * number for at, number in row.items()}
    _take_away(rest, factor, other)
    return _shortest(rest)


def _take_away(rest, factor, row):
    for column, number in row.items():
        left = rest.get(column, 0) - factor * number
        if left != 0:
            rest[column] = left
        elif column in rest:
            del rest[column]


def _take_away_by_prime(rest, factor, row):
    for column, number in row.items():
        left = (rest.get(column, 0) - factor * number) % _PRIME
        if left != 0:
            rest[column] = left
        elif column in rest:
            del rest[column]


def _inverse_by_prime(number):
    """The integer that makes 1 with another one, up to multiples of the prime."""
    high, low = _PRIME, number
    before, now = 0, 1
    while low > 1:
        times = high // low
        high, low = low, high - times * low
        before, now = now, before - times * now
    return now % _PRIME


def _shortest(row):
    common = 0
    for number in row.values():
        common = gcd(common, number)
        if common == 1:
            break
    if len(row) > 0 and row[min(list(row))] < 0:
        common = -common
    if common in (0, 1):
        return row
    return {column: number // common for column, number in row.items()}
