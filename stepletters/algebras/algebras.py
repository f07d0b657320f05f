"""Algebras of told products: 1, and units whose products are sums of multiples of units."""

from stepletters.algebras.products import UNIT_ONE, degree_of_unit, first_fault, is_products, joined_units
from stepletters.algebras.products import numbers_of_row, row_of_numbers, told_products, unit_product
from stepletters.base.echelon import echelon
from stepletters.base.exact import ONE, ZERO, multiplied
from stepletters.base.ratios import check_between, is_between, is_number
from stepletters.classes.rows import whole_rows
from stepletters.errors import InvalidAlgebra, InvalidOperation, TooMany
from stepletters.words.words import MAX_DEGREE

MAX_UNITS = 24
MAX_UNIT_DEGREE = 20
_LEAST_DEGREE = 2


class Algebra:
    """Units with their degrees, and the products that are told of them."""

    def __init__(self, degrees, products):
        if algebra_fault(degrees, products) is not None:
            raise InvalidAlgebra("the products have a fault")
        self._degrees = degrees
        self._products = told_products(products)

    @property
    def degrees(self):
        """The degrees of the units."""
        return self._degrees

    @property
    def size(self):
        """The number of the units."""
        return len(self._degrees)

    @property
    def products(self):
        """The dict of all products other than 0, ascending."""
        return told_products(self._products)

    @property
    def top(self):
        """The greatest degree of a unit, 0 if there is none."""
        return self._degrees[-1] if len(self._degrees) > 0 else 0

    def unit(self, place):
        """A unit as a tuple of ratios."""
        check_between(place, 0, len(self._degrees) - 1)
        return numbers_of_row({place: ONE}, len(self._degrees))

    def product(self, one, other):
        """The product of two tuples of a number for 1 and one for each unit."""
        _check_numbers(one, len(self._degrees))
        _check_numbers(other, len(self._degrees))
        made = joined_units(self._degrees, self._products, row_of_numbers(one), row_of_numbers(other))
        return numbers_of_row(made, len(self._degrees))

    def row(self, most):
        """The numbers of the units of the degrees from 0 to `most`, 1 being counted."""
        check_between(most, 0, MAX_DEGREE)
        return tuple([1] + [self._degrees.count(degree) for degree in range(1, most + 1)])

    def __eq__(self, other):
        if not isinstance(other, Algebra):
            return False
        return self._degrees == other._degrees and self._products == other._products

    def __len__(self):
        return len(self._degrees)

    def __str__(self):
        return f"algebra of {len(self._degrees)} units to the degree {self.top}"


def algebra_fault(degrees, products):
    """The first fault of told products, None if there is none."""
    if not _is_degrees(degrees) or not is_products(len(degrees), products):
        raise InvalidAlgebra("not degrees from 2 to 20 that do not fall, with a dict of products")
    return first_fault(degrees, told_products(products))


def beside_algebras(one, other):
    """The algebra of two algebras beside one another."""
    check_algebra(one)
    check_algebra(other)
    firsts, seconds = one.degrees, other.degrees
    pairs = []
    for left in range(UNIT_ONE, one.size):
        for right in range(UNIT_ONE, other.size):
            pairs.append((degree_of_unit(firsts, left) + degree_of_unit(seconds, right), left, right))
    # The first one is the pair of 1 and 1.
    units = sorted(pairs)[1:]
    degrees = tuple([unit[0] for unit in units])
    _check_units(degrees)
    places = {(unit[1], unit[2]): place for place, unit in enumerate(units)}
    return _made_algebra(degrees, _pair_products(one, other, places))


def joined(one, other):
    """The algebra of two algebras joined at a point."""
    check_algebra(one)
    check_algebra(other)
    units = _side_by_side(one, other)
    _check_units([unit[0] for unit in units])
    places = {(unit[1], unit[2]): place for place, unit in enumerate(units)}
    return _joined_at(units, places, one, other)


def connected(one, other):
    """The connected sum of two paired algebras of one top degree."""
    check_algebra(one)
    check_algebra(other)
    if one.top != other.top or one.top == 0 or not is_paired(one) or not is_paired(other):
        raise InvalidOperation("not two paired algebras of one top degree above 0")
    # The last two units are the top units, which are taken for one.
    units = _side_by_side(one, other)[:-1]
    _check_units([unit[0] for unit in units])
    places = {(unit[1], unit[2]): place for place, unit in enumerate(units)}
    places[(1, other.size - 1)] = len(units) - 1
    return _joined_at(units, places, one, other)


def is_paired(algebra):
    """Whether products onto the only unit of the top degree pair all degrees."""
    check_algebra(algebra)
    units = _units_by_degree(algebra)
    top = algebra.top
    if len(units[top]) != 1:
        return False
    products = algebra.products
    for degree in range(top + 1):
        rows = []
        for one in units[degree]:
            made = [unit_product(algebra.degrees, products, one, other) for other in units[top - degree]]
            numbers = [row.get(units[top][0], ZERO) for row in made]
            rows.append({at: number for at, number in enumerate(numbers) if number != ZERO})
        if len(rows) != len(units[top - degree]) or len(echelon(whole_rows(rows))) != len(rows):
            return False
    return True


def check_algebra(algebra):
    """Raise the error for a value that is no algebra."""
    if not isinstance(algebra, Algebra):
        raise InvalidAlgebra("not an algebra")


def _is_degrees(value):
    if not isinstance(value, tuple) or len(value) > MAX_UNITS:
        return False
    if not all([is_between(degree, _LEAST_DEGREE, MAX_UNIT_DEGREE) for degree in value]):
        return False
    return all([one <= other for one, other in zip(value, value[1:])])


def _check_numbers(value, size):
    if not isinstance(value, tuple) or len(value) != size + 1 or not all([is_number(number) for number in value]):
        raise InvalidOperation("not a tuple of a number for 1 and one for each unit")


def _check_units(degrees):
    if any([degree > MAX_UNIT_DEGREE for degree in degrees]):
        raise TooMany(MAX_UNIT_DEGREE)
    if len(degrees) > MAX_UNITS:
        raise TooMany(MAX_UNITS)


def _made_algebra(degrees, products):
    """The algebra of right degrees and products without a fault, with ratios of any size."""
    made = Algebra((), {})
    made._degrees = degrees
    made._products = told_products(products)
    return made


def _units_by_degree(algebra):
    """The units of each degree from 0 to the top degree; 1 has the degree 0."""
    found = [[] for _ in range(algebra.top + 1)]
    for unit in range(UNIT_ONE, algebra.size):
        found[degree_of_unit(algebra.degrees, unit)].append(unit)
    return found


def _side_by_side(one, other):
    """The units of both by their degrees, told as triples: the degree, which of both, the unit."""
    firsts = [(degree, 0, unit) for unit, degree in enumerate(one.degrees)]
    return sorted(firsts + [(degree, 1, unit) for unit, degree in enumerate(other.degrees)])


def _joined_at(units, places, one, other):
    """The algebra of told units with the products of both, `places` being the new units."""
    found = {}
    for side, algebra in enumerate((one, other)):
        for (left, right), made in algebra.products.items():
            numbers = {places[(side, unit)]: number for unit, number in made.items()}
            found[(places[(side, left)], places[(side, right)])] = numbers
    return _made_algebra(tuple([unit[0] for unit in units]), found)


def _pair_products(one, other, places):
    """The products of all pairs of units of two algebras beside one another."""
    first, second = one.products, other.products
    found = {}
    for (a, b), left in places.items():
        for (c, d), right in places.items():
            if left <= right:
                turns = degree_of_unit(other.degrees, b) * degree_of_unit(one.degrees, c)
                sign = (-1 if turns % 2 == 1 else 1, 1)
                made = {}
                for unit, number in unit_product(one.degrees, first, a, c).items():
                    for with_unit, factor in unit_product(other.degrees, second, b, d).items():
                        # Each pair comes up just once.
                        made[places[(unit, with_unit)]] = multiplied(sign, multiplied(number, factor))
                found[(left, right)] = made
    return found
