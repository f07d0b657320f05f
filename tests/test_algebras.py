"""Stage 13, algebras of told products: [13.1] to [13.7]."""

import itertools
import random
import unittest
from fractions import Fraction

from stepletters.algebras import algebras
from stepletters.algebras.algebras import Algebra, algebra_fault, beside_algebras, connected, is_paired, joined
from stepletters.base.tables import rank
from support import HUGE, LONGER, SIXTY, Case, any_values, fraction, ratio, slow_rank

POINT, BALL, PLANE = Algebra((), {}), Algebra((2,), {}), Algebra((2, 4), {(0, 0): {1: 1}})
ODD = Algebra((3, 3, 6), {(0, 1): {2: (1, 2)}})
TURN = Algebra((3, 5, 8), {(0, 1): {2: -4}})
CUBE = Algebra((2, 4, 6), {(0, 0): {1: 2}, (0, 1): {2: (1, 3)}})
MIXED = Algebra((2, 3, 3, 5, 5, 6, 8), {(0, 1): {3: 1, 4: (2, 3)}, (0, 2): {4: -1}, (1, 2): {5: 7}, (0, 5): {6: 2},
                                        (1, 3): {6: (28, 3)}, (1, 4): {6: -14}, (2, 3): {6: -14}})
LONG = Algebra((2, 2, 4), {(0, 0): {2: (SIXTY, 10 ** 59)}, (0, 1): {2: SIXTY}})
FULL = Algebra((20,) * 24, {})
SOME = [POINT, BALL, PLANE, ODD, TURN, CUBE, LONG, FULL, Algebra((3,), {}), Algebra((2, 2, 3), {}), Algebra((20,), {})]
PAIRED = [POINT, BALL, PLANE, ODD, TURN, CUBE, Algebra((3,), {}), Algebra((20,), {}), Algebra((2, 2, 4), {(0, 1): {2: 5}}),
          Algebra((2, 2, 4), {(0, 0): {2: 1}, (0, 1): {2: 2}, (1, 1): {2: 3}}), Algebra((2, 3, 5), {(0, 1): {2: 1}})]
DEGREES = [None, [], [2], (1,), (21,), (2, True), (True, 2), (3, 2), (2, 4, 3), (2,) * 25, (2, None), (2, "3"), (LONGER,), (-2,),
           (0, 2), ((2, 1),), {}, "2", (2, (3,))]
PRODUCTS = [None, (), [], {(1, 0): {2: 1}}, {(0, 3): {2: 1}}, {(-1, 0): {2: 1}}, {(0, 0): {3: 1}}, {(0, 0): {-1: 1}}, {0: {2: 1}},
            {(0,): {2: 1}}, {(0, 0, 0): {2: 1}}, {(False, 0): {2: 1}}, {(0, True): {2: 1}}, {(0, 0): {True: 1}}, {(0, 0): None},
            {(0, 0): 1}, {(0, 0): (2, 1)}, {(0, 0): {2: True}}, {(0, 0): {2: (2, 4)}}, {(0, 0): {2: LONGER}}, {(0, 0): {2: (1, LONGER)}},
            {(0, 0): {2: None}}, {(0, 0): {None: 1}}, {(0, 0): {(2,): 1}}, {"00": {2: 1}}, {(0, 0): {2: 1}, (1, 0): {}},
            {(0, LONGER): {}}, {(0, 0): {HUGE: 1}}]


class Told:
    """Degrees and products as an algebra has them, with a fault perhaps."""

    def __init__(self, degrees, products):
        self.degrees, self.products, self.size = degrees, products, len(degrees)


def slow_unit_product(algebra, i, j):
    """The product of two units, -1 being 1, as a dict of fractions."""
    if -1 in (i, j):
        return {max(i, j) if i != j else -1: Fraction(1)}
    sign = -1 if i > j and algebra.degrees[i] % 2 and algebra.degrees[j] % 2 else 1
    return {unit: sign * fraction(number) for unit, number in algebra.products.get((min(i, j), max(i, j)), {}).items()}


def slow_product(algebra, one, other):
    """The product of two tuples of numbers, as a list of fractions."""
    found = [Fraction(0)] * (algebra.size + 1)
    algebra = Told(algebra.degrees, algebra.products)
    for i, j in itertools.product(range(-1, algebra.size), repeat=2):
        if fraction(one[i + 1]) and fraction(other[j + 1]):
            for unit, number in slow_unit_product(algebra, i, j).items():
                found[unit + 1] += fraction(one[i + 1]) * fraction(other[j + 1]) * number
    return found


def told(algebra):
    """The dict of the products of all pairs of units other than 1, with fractions."""
    algebra = Told(algebra.degrees, algebra.products)
    return {(i, j): slow_unit_product(algebra, i, j) for i in range(algebra.size) for j in range(algebra.size)}


def slow_paired(algebra):
    """Whether products onto the top unit pair all degrees."""
    degrees = (0,) + algebra.degrees
    tops = [unit for unit, degree in enumerate(degrees) if degree == max(degrees)]
    if len(tops) != 1:
        return False
    for degree in range(max(degrees) + 1):
        rows = [unit for unit, told_degree in enumerate(degrees) if told_degree == degree]
        columns = [unit for unit, told_degree in enumerate(degrees) if told_degree == max(degrees) - degree]
        table = [[slow_unit_product(algebra, i - 1, j - 1).get(tops[0] - 1, 0) for j in columns] for i in rows]
        if len(rows) != len(columns) or slow_rank(table) != len(rows):
            return False
    return True


class AlgebraTest(Case):
    def test_constants(self):
        self.same([algebras.MAX_UNITS, algebras.MAX_UNIT_DEGREE], [24, 20])

    def test_properties(self):
        # [13.1]
        given = {(0, 1): {2: (1, 3), 1: 0}, (1, 1): {}, (0, 0): {1: 2}, (0, 2): {2: (0, 1)}}
        self.assertEqual(Algebra((2, 4, 6), given), CUBE)
        self.same(list(given), [(0, 1), (1, 1), (0, 0), (0, 2)])
        self.same((CUBE.degrees, CUBE.size, CUBE.products, CUBE.top, len(CUBE)),
                  ((2, 4, 6), 3, {(0, 0): {1: (2, 1)}, (0, 1): {2: (1, 3)}}, 6, 3))
        self.same(Algebra((2, 2, 4, 4), {(1, 1): {3: 1, 2: -5}, (0, 1): {3: 2}}).products,
                  {(0, 1): {3: (2, 1)}, (1, 1): {2: (-5, 1), 3: (1, 1)}})
        self.same((POINT.degrees, POINT.size, POINT.products, POINT.top, len(POINT), POINT.row(2)), ((), 0, {}, 0, 0, (1, 0, 0)))
        self.same([str(PLANE), str(BALL), str(POINT), str(FULL)], [
            "algebra of 2 units to the degree 4", "algebra of 1 units to the degree 2", "algebra of 0 units to the degree 0",
            "algebra of 24 units to the degree 20"])

    def test_objects_share_no_state(self):
        given = {(0, 0): {1: 1}}
        algebra = Algebra((2, 4), given)
        given[(0, 0)][1] = 7
        given[(0, 1)] = {1: 3}
        self.assertEqual(algebra, PLANE)
        algebra.products[(0, 0)][1] = (5, 1)
        algebra.products.clear()
        self.same(algebra.products, {(0, 0): {1: (1, 1)}})
        for name in ("degrees", "size", "products", "top"):
            with self.assertRaises(AttributeError):
                setattr(algebra, name, None)
        with self.assertRaises(TypeError):
            list(algebra)
        for wrong in (lambda: algebra + algebra, lambda: algebra * 2, lambda: -algebra, lambda: algebra < algebra):
            with self.assertRaises(TypeError):
                wrong()

    def test_units_and_rows(self):
        self.same(PLANE.unit(0), ((0, 1), (1, 1), (0, 1)))
        for algebra in SOME:
            for place in range(algebra.size):
                self.same(algebra.unit(place), tuple((int(at == place + 1), 1) for at in range(algebra.size + 1)))
            for value in (-1, algebra.size, None, True, LONGER, "0", (0,), [0]):
                self.fails("InvalidNumber", value, algebra.unit, value)
            for most in (0, 1, 2, 7, 20, 80):
                self.same(algebra.row(most), tuple(((0,) + algebra.degrees).count(degree) for degree in range(most + 1)))
            for value in (-1, 81, None, True, LONGER, -LONGER, "1", (1,)):
                self.fails("InvalidNumber", value, algebra.row, value)

    def test_products(self):
        # [13.1]
        some = random.Random(1)
        for algebra in SOME + [MIXED]:
            for _ in range(4):
                one = tuple(some.choice([0, 1, -2, (1, 3), (-5, 2), SIXTY]) for _ in range(algebra.size + 1))
                other = tuple(some.choice([0, 1, 3, (2, 3), (1, SIXTY), 0]) for _ in range(algebra.size + 1))
                self.same(algebra.product(one, other), tuple(map(ratio, slow_product(algebra, one, other))))
            one = tuple((int(at == 0), 1) for at in range(algebra.size + 1))
            for place in range(algebra.size):
                self.same(algebra.product(one, algebra.unit(place)), algebra.unit(place))
                self.same(algebra.product(algebra.unit(place), one), algebra.unit(place))
        first, last = TURN.unit(0), TURN.unit(1)
        self.same(TURN.product(first, last), ((0, 1), (0, 1), (0, 1), (-4, 1)))
        self.same(TURN.product(last, first), ((0, 1), (0, 1), (0, 1), (4, 1)))
        self.same(POINT.product(((2, 3),), (6,)), ((4, 1),))

    def test_errors_of_products(self):
        good = (1, 0, (1, 2))
        for value in any_values():
            if not (isinstance(value, tuple) and value == (1, 2, 3)):
                self.fails("InvalidOperation", None, PLANE.product, value, None)
                self.fails("InvalidOperation", None, PLANE.product, good, value)
        for wrong in ((1, 0), (1, 0, 0, 0), (1, 0, True), (1, 0, (2, 4)), (1, 0, LONGER), [1, 0, 0], (1, 0, (1, LONGER))):
            self.fails("InvalidOperation", None, PLANE.product, wrong, good)
            self.fails("InvalidOperation", None, PLANE.product, good, wrong)

    def test_products_of_three(self):
        # [13.1]: told products without a fault make an algebra
        some = random.Random(2)
        for algebra in SOME + [MIXED, connected(PLANE, PLANE), beside_algebras(PLANE, ODD), joined(CUBE, TURN)]:
            for _ in range(3):
                a, b, c = [tuple(some.choice([0, 1, -2, (1, 3)]) for _ in range(algebra.size + 1)) for _ in range(3)]
                if algebra is not LONG:
                    self.same(algebra.product(algebra.product(a, b), c), algebra.product(a, algebra.product(b, c)))
            for i, j in itertools.product(range(algebra.size), repeat=2):
                odd = algebra.degrees[i] % 2 and algebra.degrees[j] % 2
                turned = algebra.product(algebra.unit(j), algebra.unit(i))
                sign = -1 if odd else 1
                self.same(algebra.product(algebra.unit(i), algebra.unit(j)), tuple((sign * n, d) for n, d in turned))

    def test_equal_algebras(self):
        for one, other in itertools.product(SOME, repeat=2):
            self.assertIs(one == other, one is other)
            self.assertIs(one != other, one is not other)
        self.assertEqual(Algebra((2, 4), {(0, 0): {1: (1, 1)}, (0, 1): {}}), PLANE)
        self.assertNotEqual(Algebra((2, 4), {(0, 0): {1: 2}}), PLANE)
        for value in any_values():
            if not isinstance(value, Algebra):
                self.assertIs(PLANE == value, False)
                self.assertIs(PLANE != value, True)


class FaultsTest(Case):
    def test_wrong_degrees_and_products(self):
        for degrees in DEGREES:
            self.fails("InvalidAlgebra", None, Algebra, degrees, {})
            self.fails("InvalidAlgebra", None, algebra_fault, degrees, {})
            self.fails("InvalidAlgebra", None, algebra_fault, degrees, None)
        for products in PRODUCTS:
            self.fails("InvalidAlgebra", None, Algebra, (2, 2, 4), products)
            self.fails("InvalidAlgebra", None, algebra_fault, (2, 2, 4), products)
        for value in any_values():
            if not (isinstance(value, tuple) and value in ((), ) or value in ((2, 4),)):
                self.fails("InvalidAlgebra", None, Algebra, value, {})
            if not isinstance(value, dict) or (value and value != {(0, 0): {0: 1}}):
                self.fails("InvalidAlgebra", None, algebra_fault, (2, 2, 4), value)
        self.assertEqual([Algebra((2, 20), {}).top, len(Algebra((2,) * 24, {}))], [20, 24])

    def test_faults(self):
        # [13.2]
        for degrees, products, wanted in [
            ((2, 4), {(0, 0): {0: 1}}, ("degree", 0, 0)), ((2, 4), {(0, 0): {0: 0, 1: 1}}, None), ((2, 4), {(0, 0): {0: (0, 1)}}, None),
            ((3, 6), {(0, 0): {1: 1}}, ("square", 0)), ((3, 6), {(0, 0): {1: 0}}, None), ((2, 3, 6), {(1, 1): {2: (1, 2)}}, ("square", 1)),
            ((2, 2, 4, 6), {(0, 0): {2: 1}, (1, 2): {3: 1}}, ("bracket", 0, 0, 1)), ((2, 4), {(1, 1): {1: 1}}, ("degree", 1, 1)),
            ((2, 3, 6), {(1, 1): {2: 1}, (0, 1): {2: 1}}, ("degree", 0, 1)), ((3, 3, 6), {(0, 1): {2: 1}, (0, 0): {2: 1}}, ("square", 0)),
            ((3, 3, 6), {(1, 1): {2: 1}, (0, 0): {2: 1}}, ("square", 0)), ((2, 4, 20), {(0, 0): {1: 1, 2: 1}}, ("degree", 0, 0)),
            ((2, 3, 3, 5, 8), {(0, 1): {3: 1}, (2, 3): {4: 1}}, ("bracket", 0, 1, 2)), ((20, 20), {(0, 1): {1: 1}}, ("degree", 0, 1)),
            ((2, 4, 6), {(0, 0): {1: 2}, (0, 1): {2: (1, 3)}}, None), ((), {}, None),
            ((2, 3, 3, 6, 8), {(0, 1): {4: 1}, (1, 1): {3: 1}, (2, 2): {3: 1}}, ("degree", 0, 1)),
            ((2, 3, 3, 6, 8), {(1, 1): {3: 1}, (0, 3): {4: 1}}, ("square", 1)),
            ((2, 2, 3, 5, 7), {(0, 2): {3: 1}, (0, 3): {4: 1}}, ("bracket", 0, 0, 2)),
        ]:
            self.same(algebra_fault(degrees, products), wanted)
            if wanted is None:
                self.assertEqual(Algebra(degrees, products).degrees, degrees)
            else:
                self.fails("InvalidAlgebra", None, Algebra, degrees, products)

    def test_first_faults_found_by_trying(self):
        # [13.2]: degrees first, then squares, then brackets, each with the least numbers
        some = random.Random(3)
        found = set()
        for _ in range(400):
            size = some.randint(1, 7)
            degrees = tuple(sorted(some.choice([2, 2, 3, 3, 4, 5, 6, 7, 8, 9]) for _ in range(size)))
            products = {}
            for i in range(size):
                for j in range(i, size):
                    right = [unit for unit in range(size) if degrees[unit] == degrees[i] + degrees[j]]
                    wrong = [some.randrange(size)] if some.random() < 0.02 else []
                    if right + wrong and not (i == j and degrees[i] % 2 and some.random() < 0.9):
                        products[(i, j)] = {unit: some.choice([0, 1, 1, 2, (-1, 2)]) for unit in right + wrong}
            fault = slow_fault(degrees, products)
            self.same(algebra_fault(degrees, products), fault)
            found.add(fault and fault[0])
        self.assertEqual(found, {None, "degree", "square", "bracket"})


def slow_fault(degrees, products):
    """The first fault by all pairs and triples of units."""
    size = len(degrees)
    for i in range(size):
        for j in range(i, size):
            for unit, number in products.get((i, j), {}).items():
                if fraction(number) != 0 and degrees[unit] != degrees[i] + degrees[j]:
                    return ("degree", i, j)
    for i in range(size):
        if degrees[i] % 2 and any(fraction(number) for number in products.get((i, i), {}).values()):
            return ("square", i)
    algebra = Told(degrees, products)
    units = [[int(at == unit + 1) for at in range(size + 1)] for unit in range(size)]
    for i, j, k in itertools.product(range(size), repeat=3):
        ahead = slow_product(algebra, slow_product_ratios(algebra, units[i], units[j]), units[k])
        if ahead != slow_product(algebra, units[i], slow_product_ratios(algebra, units[j], units[k])):
            return ("bracket", i, j, k)
    return None


def slow_product_ratios(algebra, one, other):
    return [ratio(number) for number in slow_product(algebra, one, other)]


class MadeAlgebrasTest(Case):
    def test_wrong_kinds(self):
        for call in (beside_algebras, joined, connected):
            for value in any_values():
                if not isinstance(value, Algebra):
                    self.fails("InvalidAlgebra", None, call, value, None)
                    self.fails("InvalidAlgebra", None, call, value, BALL)
                    self.fails("InvalidAlgebra", None, call, BALL, value)
        for value in any_values():
            if not isinstance(value, Algebra):
                self.fails("InvalidAlgebra", None, is_paired, value)

    def test_beside_one_another(self):
        # [13.3]
        for one, other in itertools.product(SOME + [MIXED], repeat=2):
            pairs = [(a, b) for a in range(-1, one.size) for b in range(-1, other.size)][1:]
            degree = {(a, b): ((0,) + one.degrees)[a + 1] + ((0,) + other.degrees)[b + 1] for a, b in pairs}
            if any(number > 20 for number in degree.values()):
                self.fails("TooMany", 20, beside_algebras, one, other)
            elif len(pairs) > 24:
                self.fails("TooMany", 24, beside_algebras, one, other)
            else:
                made = beside_algebras(one, other)
                units = sorted(pairs, key=lambda pair: (degree[pair], pair))
                self.same(made.degrees, tuple(degree[pair] for pair in units))
                found = told(made)
                self.same(algebra_fault(made.degrees, {} if one is LONG or other is LONG else made.products), None)
                for (a, b), (c, d) in itertools.product(units, repeat=2):
                    odd = ((0,) + other.degrees)[b + 1] % 2 and ((0,) + one.degrees)[c + 1] % 2
                    wanted = {units.index((e, f)): (-1 if odd else 1) * left * right
                              for e, left in slow_unit_product(one, a, c).items()
                              for f, right in slow_unit_product(other, b, d).items()}
                    self.assertEqual(found[units.index((a, b)), units.index((c, d))], wanted)

    def test_rows_beside_one_another(self):
        for one, other in ((BALL, PLANE), (ODD, PLANE), (Algebra((3,), {}), TURN), (POINT, CUBE)):
            made, row, more = beside_algebras(one, other), one.row(40), other.row(40)
            wanted = tuple(sum(row[i] * more[n - i] for i in range(n + 1)) for n in range(41))
            self.same(made.row(40), wanted)
        self.assertEqual([beside_algebras(POINT, MIXED), beside_algebras(MIXED, POINT)], [MIXED, MIXED])
        two = beside_algebras(Algebra((3,), {}), Algebra((3,), {}))
        # units by degrees, those of one degree by the first one's, 1 ahead of all
        self.same((two.degrees, two.products), ((3, 3, 6), {(0, 1): {2: (-1, 1)}}))

    def test_bounds_beside_one_another(self):
        self.fails("TooMany", 20, beside_algebras, FULL, BALL)
        self.fails("TooMany", 20, beside_algebras, Algebra((19,), {}), BALL)
        self.same(beside_algebras(Algebra((18,), {}), BALL).degrees, (2, 18, 20))
        four, five = Algebra((2,) * 4, {}), Algebra((2,) * 5, {})
        self.same(beside_algebras(four, four).size, 24)
        self.fails("TooMany", 24, beside_algebras, four, five)
        self.same(beside_algebras(FULL, POINT).size, 24)
        self.fails("TooMany", 20, beside_algebras, FULL, FULL)

    def test_joined(self):
        # [13.4]
        for one, other in itertools.product(SOME + [MIXED], repeat=2):
            if one.size + other.size > 24:
                self.fails("TooMany", 24, joined, one, other)
                continue
            made = joined(one, other)
            units = sorted([(degree, 0, at) for at, degree in enumerate(one.degrees)]
                           + [(degree, 1, at) for at, degree in enumerate(other.degrees)])
            self.same(made.degrees, tuple(unit[0] for unit in units))
            found = told(made)
            for (_, side, i), (_, beside, j) in itertools.product(units, repeat=2):
                wanted = {}
                if side == beside:
                    wanted = {units.index(((one, other)[side].degrees[unit], side, unit)): number
                              for unit, number in slow_unit_product((one, other)[side], i, j).items()}
                places = [units.index(((one, other)[s].degrees[at], s, at)) for s, at in ((side, i), (beside, j))]
                self.assertEqual(found[tuple(places)], wanted)
        self.assertEqual(joined(Algebra((2,) * 12, {}), Algebra((2,) * 12, {})), Algebra((2,) * 24, {}))
        self.fails("TooMany", 24, joined, FULL, BALL)
        self.assertEqual(joined(BALL, BALL), Algebra((2, 2), {}))
        self.assertEqual(joined(POINT, POINT), POINT)

    def test_paired(self):
        # [13.5]
        for algebra in SOME + PAIRED + [MIXED, joined(BALL, BALL), joined(PLANE, PLANE), connected(PLANE, PLANE),
                                        beside_algebras(PLANE, ODD), beside_algebras(BALL, joined(BALL, BALL))]:
            self.assertIs(is_paired(algebra), slow_paired(algebra))
        for algebra in PAIRED:
            self.assertIs(is_paired(algebra), True)
        for algebra in (LONG, Algebra((2, 3), {}), Algebra((2, 2, 4), {(0, 0): {2: 1}}), Algebra((4, 4), {}), joined(BALL, BALL),
                        Algebra((2, 2, 4), {(0, 0): {2: 1}, (0, 1): {2: 2}, (1, 1): {2: 4}}), Algebra((2, 4, 4), {(0, 0): {1: 1}}),
                        Algebra((2, 5), {}), Algebra((2, 4, 7), {})):
            self.assertIs(is_paired(algebra), algebra is LONG)
        # two paired algebras beside one another are paired
        for one, other in ((BALL, PLANE), (ODD, PLANE), (ODD, BALL), (Algebra((3,), {}), CUBE)):
            self.assertIs(is_paired(beside_algebras(one, other)), True)

    def test_connected(self):
        # [13.6]
        for one, other in itertools.product(PAIRED + [LONG, joined(BALL, BALL), joined(PLANE, PLANE)], repeat=2):
            if one.top != other.top or one.top == 0 or not slow_paired(one) or not slow_paired(other):
                self.fails("InvalidOperation", None, connected, one, other)
                continue
            made = connected(one, other)
            self.assertIs(is_paired(made), True)
            self.same(made.size, one.size + other.size - 1)
            whole = joined(one, other)
            self.same(made.degrees, whole.degrees[:-1])
            last = made.size - 1
            wanted = {pair: {min(unit, last): number for unit, number in row.items()} for pair, row in whole.products.items()}
            self.same(made.products, wanted)
            self.assertEqual(made.row(20)[-1], one.row(20)[-1] if one.top == 20 else 0)
        self.assertEqual(connected(BALL, BALL), BALL)
        self.assertEqual(connected(ODD, ODD).products, {(0, 1): {4: (1, 2)}, (2, 3): {4: (1, 2)}})
        self.assertEqual(connected(PLANE, PLANE).row(4), beside_algebras(BALL, BALL).row(4))
        self.assertEqual(connected(BALL, BALL).degrees, (2,))

    def test_bounds_of_connected_sums(self):
        wide = Algebra((2,) * 12 + (4,), {(at, at): {12: 1} for at in range(12)})
        more = Algebra((2,) * 11 + (4,), {(at, at): {11: at + 1} for at in range(11)})
        self.assertTrue(is_paired(wide) and is_paired(more))
        self.same(connected(wide, more).size, 24)
        self.fails("TooMany", 24, connected, wide, wide)
        self.fails("InvalidOperation", None, connected, FULL, FULL)
        self.fails("InvalidOperation", None, connected, POINT, POINT)
        self.assertEqual(connected(Algebra((20,), {}), Algebra((20,), {})), Algebra((20,), {}))

    def test_what_is_not_true(self):
        # [13.7]
        self.assertEqual(connected(PLANE, PLANE).row(9), beside_algebras(BALL, BALL).row(9))
        # squares tell them: over the ratios one of both has an element with the square 0
        table = ((1, 0), (0, 1))
        self.assertEqual(rank(table), 2)
        self.assertNotEqual(connected(PLANE, PLANE), beside_algebras(BALL, BALL))
        self.assertIs(is_paired(joined(BALL, BALL)), False)


if __name__ == "__main__":
    unittest.main()
