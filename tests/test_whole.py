"""What reaches over the whole program: one tower, one closed sum, one algebra, led through all stages; [0.14] to [0.18]."""

import itertools
import unittest

from stepletters.algebras.algebras import Algebra, beside_algebras, connected, is_paired, joined
from stepletters.algebras.least import is_least_tower, least_tower, letter_counts
from stepletters.algebras.loops import counts_of_series, free_counts, loop_series, paired_counts
from stepletters.base.ratios import plus
from stepletters.base.tables import rank
from stepletters.built.built import flags, projective, spaces, special_group, sphere
from stepletters.classes.classes import class_basis, class_count, class_paper, class_row, coordinates, is_class_basis, is_class_paper
from stepletters.classes.rings import class_products, cup_length, is_product, pairing_rank, product_count
from stepletters.classes.triples import is_triple_paper, triple, triple_paper, triple_sum
from stepletters.classes.weights import is_weighting, plain_weighting, weight_row
from stepletters.desk.desk import Desk
from stepletters.plain.degrees import can_end, degrees_paper, is_degrees_paper
from stepletters.plain.ends import does_end, end_paper, euler_number, is_end_paper, top_class, top_degree, total_count
from stepletters.plain.grades import grade_row, top_grade
from stepletters.text.strings import is_text, kind_of_text, read_value, write_value
from stepletters.towers.brackets import bracket_of, brackets_of, falling_row, is_like_ring, reach, tower_of_brackets
from stepletters.towers.lengths import length_row, length_weights, step_length, top_length
from stepletters.towers.maps import class_map, composed, is_map, led, linear_part, map_fault
from stepletters.towers.towers import Tower, beside, cut_tower, plain_tower, quadratic_tower, with_letter
from stepletters.words.sums import Sum, placed, plain_sum, power
from stepletters.words.words import word_count
from support import BALL, BENT, BOTH, EMPTY, HALF, KNIT, KNOT, TWIST, Case

CP2 = Algebra((2, 4), {(0, 0): {1: 1}})


def identity(tower):
    return tuple(tower.letter_sum(index) for index in range(tower.size))


def ring_of(tower, top):
    """The algebra of the classes of a tower without classes above a degree, by class bases."""
    bases = {degree: class_basis(tower, degree) for degree in range(1, top + 1)}
    units = [(degree, a_sum) for degree in bases for a_sum in bases[degree]]
    products = {}
    for (i, (m, a)), (j, (n, b)) in itertools.combinations_with_replacement(enumerate(units), 2):
        if m + n <= top:
            first = [degree for degree, _ in units].index(m + n) if bases[m + n] else 0
            numbers = class_products(tower, (a,), (b,), bases[m + n])[0][0]
            products[(i, j)] = {first + at: number for at, number in enumerate(numbers)}
    return Algebra(tuple(degree for degree, _ in units), products)


class OneTowerTest(Case):
    def test_a_plane_through_all_stages(self):
        plane = projective(2, 2)
        self.same((plane.letters, plane.is_plain, class_row(plane, 6)), ((2, 5), True, (1, 0, 1, 0, 1, 0, 0)))
        self.same([does_end(plane), top_degree(plane.letters), total_count(plane), euler_number(plane.letters)], [True, 4, 3, (3, 1)])
        self.same([grade_row(plane, 0), top_grade(plane), top_length(plane), length_row(plane, 4)], [(1, 0, 1, 0, 1), 0, 2, (0, 0, 1, 0, 0)])
        self.assertTrue(is_weighting(plane, length_weights(plane)) and is_weighting(plane, plain_weighting(plane.letters)))
        self.same(weight_row(plane, (1, 3), 2), {4: 1})
        paper = degrees_paper((2,), (5,))
        made = Tower((2, 5), ({}, {word + (0,): number for word, number in paper[1][0].items()}))
        self.assertTrue(paper[0] == "tower" and does_end(made) and is_degrees_paper((2,), (5,), paper))
        self.same(end_paper(plane)[0], "powers")
        ring = ring_of(plane, 4)
        self.assertTrue(is_paired(ring))
        self.same(ring.row(6), class_row(plane, 6))
        tower, images = least_tower(ring, 7)
        self.same((tower.letters, letter_counts(ring, 7)), (plane.letters, (1, 0, 0, 1, 0, 0)))
        self.assertIs(is_least_tower(ring, 7, (plane, (images[0], images[1]))), True)
        # the least tower is led to the plane, one to one on classes
        step = plane.step(plane.letter_sum(1)).number_at((3, 0))
        other = tower.step(tower.letter_sum(1)).number_at((3, 0))
        self.same((step, other[1]), ((1, 1), 1))
        maps = (plane.letter_sum(0), plane.letter_sum(1) * other)
        self.assertIs(is_map(tower, plane, maps), True)
        self.same([class_map(tower, plane, maps, degree) for degree in range(7)], list(class_row(plane, 6)))
        self.same([linear_part(tower, plane, maps, degree) for degree in (2, 5)], [(((1, 1),),), ((other,),)])
        x = plane.letter_sum(0)
        self.same(triple_paper(plane, x, x * x, x)[0], "zero")
        text = write_value(plane, kind="tower")
        self.assertEqual((text, read_value(text)), ("tower 2 5 | 1 ; 1 : 3 0", plane))
        desk = Desk()
        desk.keep("plane", plane)
        desk.keep("read", read_value(text))
        for label, claim in (("a", ("equal", "plane", "read")), ("b", ("plain", "plane")), ("c", ("letters", "read", (2, 5))), ("d", ("closed", "plane", {(2, 0): 3})),
                             ("e", ("classes", "plane", 4, 1)), ("f", ("ends", "read"))):
            desk.claim(label, claim)
        self.same(str(desk), "desk of 2 towers, 6 claims")

    def test_towers_through_texts_desks_and_maps(self):
        for tower in (BALL, TWIST, BENT, HALF, KNOT, BOTH, KNIT, EMPTY, sphere(6), spaces(2, 4), flags(3), special_group(3)):
            self.assertEqual(read_value(write_value(tower, kind="tower")), tower)
            desk = Desk()
            desk.keep("f", tower)
            self.same(desk.make_plain("f"), 2)
            self.assertEqual(desk.tower("f"), plain_tower(tower))
            desk.undo()
            for index in range(tower.size):
                desk.during(lambda inner: self.assertEqual(inner.cut("f", index) and inner.tower("f"), cut_tower(tower, index)))
            self.assertEqual(desk.tower("f"), tower)
            again = EMPTY
            for letter, step in zip(tower.letters, tower.steps):
                again = with_letter(again, letter, {word[:again.size]: number for word, number in step})
            self.assertEqual(again, tower)
            self.assertIs(is_map(tower, tower, identity(tower)), True)
            both = beside(tower, BALL)
            into = tuple(both.letter_sum(index) for index in range(tower.size))
            out = identity(tower) + (Sum(tower.letters, {}),) * 2
            self.assertEqual((map_fault(tower, both, into), map_fault(both, tower, out)), (None, None))
            self.assertEqual(composed(tower, both, tower, into, out), identity(tower))
            for degree in range(6):
                self.same(class_map(both, tower, out, degree), class_count(tower, degree))

    def test_towers_that_end(self):
        # [0.15]: papers, the top class, the pairing, the signed number
        for tower in (BALL, TWIST, HALF, BOTH, sphere(6), projective(4, 2), spaces(2, 4), flags(3), special_group(3), beside(BALL, HALF)):
            top = top_degree(tower.letters)
            self.assertIs(is_end_paper(tower, end_paper(tower)), True)
            row = class_row(tower, top)
            self.same((row, row[top], sum(row)), (row[::-1], 1, total_count(tower)))
            signed = sum((-1) ** degree * number for degree, number in enumerate(row))
            self.same(euler_number(tower.letters), (signed, 1))
            self.same([pairing_rank(tower, degree, top) for degree in range(top + 1)], list(row))
            self.same(class_paper(tower, top_class(tower))[0], "test")
            evens, odds = [tuple(d for d in tower.letters if d % 2 == k) for k in (0, 1)]
            self.assertIs(can_end(evens, odds), True)
            ring = ring_of(tower, top) if top <= 12 and len(row) and sum(row) <= 25 else None
            if ring is not None:
                self.assertIs(is_paired(ring), True)
                self.same(ring.row(top), row)

    def test_letters_of_the_degree_1(self):
        table = ({}, {}, {(0, 1): 1}, {(0, 2): (1, 2)})
        tower = tower_of_brackets(table)
        self.assertEqual(quadratic_tower(tower), tower)
        self.same([step_length(tower), falling_row(table), reach(tower), is_like_ring(tower)], [2, (4, 2, 1), 1, False])
        self.same(brackets_of(read_value(write_value(tower, kind="tower"))), ({}, {}, {(0, 1): (1, 1)}, {(0, 2): (1, 2)}))
        # the bracket is what steps tell: units 0 and 2 make half of the unit 3
        self.same(bracket_of(table, (1, 0, 0, 0), (0, 0, 1, 0)), ((0, 1), (0, 1), (0, 1), (1, 2)))
        self.same(tower.step(tower.letter_sum(3)).number_at((1, 0, 1, 0)), (1, 2))
        # a product of classes of the degree 1 that is 0, and a triple that is not
        a, b = tower.letter_sum(0), tower.letter_sum(1)
        self.same([class_paper(tower, a * b)[0], is_product(tower, 2, a * b), triple_paper(tower, a, b, a)[0]], ["step", True, "zero"])
        knot = tower_of_brackets(({}, {}, {(0, 1): 1}))
        self.assertEqual(knot, KNOT)
        self.same([triple_paper(KNOT, KNOT.letter_sum(0), KNOT.letter_sum(1), KNOT.letter_sum(0))[0], is_like_ring(KNOT)], ["test", False])
        self.same([product_count(KNOT, 2, degree) for degree in range(4)], [0, 0, 0, 1])


class OneSumTest(Case):
    def test_a_closed_sum_through_all_stages(self):
        tower = BOTH
        a, b, c, d = identity(tower)
        a_sum = a * b * (3, 2) + a * a * 5
        self.assertTrue(tower.is_closed(a_sum) and a_sum.degree == 4)
        basis = (a * b * 2,)
        self.assertIs(is_class_basis(tower, 4, basis), True)
        self.same(coordinates(tower, basis, a_sum), ((3, 4),))
        paper = class_paper(tower, a_sum)
        self.assertTrue(paper[0] == "test" and is_class_paper(tower, a_sum, paper))
        # the test is one of the steps' table, as tables tell it
        steps = [tuple(step.number_at(word)[0] for word in ((0, 2, 0, 0), (1, 1, 0, 0), (2, 0, 0, 0))) for step in (tower.step(c), tower.step(d))]
        self.same(rank(tuple(steps)), 2)
        self.assertFalse(any(sum(x * y for x, y in zip(paper[1], row)) for row in steps))
        self.same([is_product(tower, many, a_sum) for many in (1, 2, 3)], [True, True, False])
        text = write_value(a_sum, kind="sum")
        self.same(text, "sum 2 2 3 3 ; 3/2 : 1 1 0 0 ; 5 : 2 0 0 0")
        self.assertEqual((read_value(text), kind_of_text(text)), (a_sum, "sum"))
        desk = Desk()
        desk.keep("f", tower)
        self.same(desk.claim("c", ("closed", "f", read_value(text).terms)), 2)
        self.fails("Refused", ("claim", "d"), desk.claim, "d", ("closed", "f", c.terms))
        # led by a map that exchanges both halves, and placed in the exchanged letters
        turned = (b, a, d, c)
        moved = led(tower, tower, turned, a_sum)
        self.assertEqual(moved, placed(a_sum, tower.letters, (1, 0, 3, 2)))
        self.same(coordinates(tower, basis, moved), ((3, 4),))
        self.assertEqual(plain_sum(moved), b * a * 3 + b * b * 10)
        # a triple with it: a times a_sum is a step
        self.assertEqual(class_paper(tower, a * a_sum)[0], "step")
        x, y = triple(tower, a, a_sum, a)
        self.assertTrue(tower.is_closed(triple_sum(tower, a, a_sum, a, (x, y))))
        self.same(triple_paper(tower, a, a_sum, a)[0], "zero")
        self.assertIs(is_triple_paper(tower, a, a_sum, a, triple_paper(tower, a, a_sum, a)), True)
        self.same(power(a_sum, 2).terms[(2, 2, 0, 0)], plus((9, 4), (0, 1)))


class OneAlgebraTest(Case):
    def test_a_connected_sum_through_all_stages(self):
        algebra = connected(CP2, CP2)
        self.assertTrue(is_paired(algebra))
        counts = letter_counts(algebra, 7)
        self.same((counts, paired_counts(2, 2, 7)), ((2, 2, 0, 0, 0, 0), (2, 2, 0, 0, 0, 0)))
        tower, images = least_tower(algebra, 7)
        self.same(counts_of_series(loop_series(tower.letters, 6)), counts)
        self.same(class_row(tower, 7), algebra.row(7))
        self.same([does_end(tower), top_degree(tower.letters), total_count(tower), cup_length(tower, 4)], [True, 4, 4, 2])
        self.same([pairing_rank(tower, degree, 4) for degree in range(5)], [1, 0, 2, 0, 1])
        ring = ring_of(tower, 4)
        self.same((ring.row(9), is_paired(ring)), (algebra.row(9), True))
        self.same(letter_counts(ring, 7), counts)
        text = write_value(algebra, kind="algebra")
        self.same(text, "algebra 2 2 4 | 0 0 ; 1 : 2 | 1 1 ; 1 : 2")
        self.assertIs(is_least_tower(read_value(text), 7, (read_value(write_value(tower, kind="tower")), images)), True)
        # the tower's images lead products of letters to products of units
        made = algebra.product(images[0], images[0])
        self.same(class_paper(tower, tower.letter_sum(0) * tower.letter_sum(0))[0], "test" if any(part[0] for part in made) else "step")
        desk = Desk()
        desk.keep("least", tower)
        self.same([desk.claim("e", ("ends", "least")), desk.claim("n", ("classes", "least", 2, 2)), desk.claim("z", ("classes", "least", 5, 0))], [2, 3, 4])

    def test_rings_of_built_towers(self):
        for tower, top in ((sphere(4), 4), (projective(2, 3), 6), (spaces(2, 4), 8), (flags(3), 6), (special_group(3), 8), (BOTH, 4)):
            ring = ring_of(tower, top)
            self.same(ring.row(top), class_row(tower, top))
            self.assertIs(is_paired(ring), True)
            # these towers are least ones of their rings, letters by degrees, as far as this is asked for
            counts = tuple(tower.letters.count(degree) for degree in range(2, 8))
            self.same(letter_counts(ring, 7), counts)

    def test_joined_algebras(self):
        ball, three = Algebra((2,), {}), Algebra((3,), {})
        self.same(letter_counts(joined(ball, three), 6), free_counts((2, 3), 6))
        self.same(letter_counts(beside_algebras(ball, three), 6), tuple(map(sum, zip(free_counts((2,), 6), free_counts((3,), 6)))))


class MainStatementsTest(Case):
    def test_what_is_not_true(self):
        # [0.18]: classes that are missing above all letters come again
        row = class_row(Tower((4,), ({},)), 9)
        self.same((row[5:8], row[8]), ((0, 0, 0), 1))
        # equally many classes, and unlike products
        one, other = beside(sphere(2), sphere(4)), projective(2, 3)
        self.same((class_row(one, 9), cup_length(one, 6)), (class_row(other, 9), 2))
        self.same(cup_length(other, 6), 3)
        # a tower and its plain one
        self.assertNotEqual(class_row(HALF, 11), class_row(plain_tower(HALF), 11))
        # the same ring, and more letters
        ring = ring_of(HALF, 11)
        self.same((ring.degrees, is_paired(ring)), ((3, 3, 8, 8, 11), True))
        self.same(letter_counts(ring, 7), (0, 2, 0, 1, 0, 2))
        tower, images = least_tower(ring, 7)
        self.same(class_row(tower, 7), class_row(HALF, 7))
        self.assertIs(is_least_tower(ring, 7, (HALF, images[:3])), False)

    def test_triples_tell_that_a_tower_is_not_told_by_its_classes(self):
        # [17.5]: a paper of the sort "test", and another least tower over the ring
        a, b = HALF.letter_sum(0), HALF.letter_sum(1)
        self.same(triple_paper(HALF, a, b, a)[0], "test")
        self.assertNotEqual(letter_counts(ring_of(HALF, 11), 7), (0, 2, 0, 1, 0, 0))

    def test_degrees_tell_whether_classes_can_end(self):
        # [0.16]
        for evens, odds in (((2,), (5,)), ((4, 6), (9, 23)), ((2, 2), (3, 3)), ((2, 4), (7, 5)), ((), (3, 5))):
            paper = degrees_paper(evens, odds)
            self.same(paper[0], "tower")
            rest = (0,) * len(odds)
            tower = Tower(evens + odds, ({},) * len(evens) + tuple({word + rest: number for word, number in step.items()} for step in paper[1]))
            self.assertTrue(tower.is_plain and does_end(tower))
            self.assertIs(is_text(write_value(tower, kind="tower")), True)
            self.assertLessEqual(word_count(tower.letters, 0), 1)


if __name__ == "__main__":
    unittest.main()
