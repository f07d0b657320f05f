"""Stage 17, triples: [17.1] to [17.6]."""

import itertools
import random
import unittest
from fractions import Fraction

from stepletters.built.built import flags, projective, spaces, sphere
from stepletters.classes import triples
from stepletters.classes.classes import class_basis, class_paper
from stepletters.classes.triples import is_triple, is_triple_paper, triple, triple_paper, triple_sum
from stepletters.plain.grades import grade_row, top_grade
from stepletters.towers.brackets import brackets_fault, tower_of_brackets
from stepletters.towers.towers import Tower, beside
from stepletters.words.sums import Sum
from stepletters.words.words import word_count
from support import (BALL, BENT, BOTH, EMPTY, HALF, KNOT, LONG, LONGER, ROW, SIXTY, TWIST, Case, any_values, fraction, slow_is_step, slow_rank,
                     slow_row, slow_step_rows, slow_words)
from test_brackets import some_tables

NIL = Tower((1, 1, 1), ({}, {}, {(1, 1, 0): 1}))
X, Y, Z = [NIL.letter_sum(index) for index in range(3)]
ZERO = X - X
FOUR = tower_of_brackets(({}, {}, {(0, 1): 1}, {(0, 2): 1}))
# products of closed odd letters that are steps, and triple sums that are none
CHAIN = Tower((3, 3, 3, 5, 5), ({}, {}, {}, {(1, 1, 0, 0, 0): 1}, {(0, 1, 1, 0, 0): (2, 3)}))
EVEN = Tower((2, 2, 3, 3), ({}, {}, {(2, 0, 0, 0): 1}, {(1, 1, 0, 0): -2}))
CUBES = Tower((2, 2, 5, 5), ({}, {}, {(3, 0, 0, 0): 1}, {(1, 2, 0, 0): 5}))
CASES = [
    (NIL, X, X, Y), (NIL, X, Y, X), (NIL, X, X, X), (NIL, X, Y, Y), (NIL, Y, X, X), (NIL, X * Z, X, Y), (NIL, X, X, X * Z), (NIL, X * 3, X + X, Y),
    (FOUR, *[FOUR.letter_sum(at) for at in (0, 0, 1)]), (FOUR, *[FOUR.letter_sum(at) for at in (0, 1, 0)]),
    (FOUR, FOUR.letter_sum(0), FOUR.letter_sum(1) * FOUR.letter_sum(2), FOUR.letter_sum(1)), (CHAIN, *[CHAIN.letter_sum(at) for at in range(3)]),
    (CHAIN, *[CHAIN.letter_sum(at) for at in (2, 1, 0)]), (CHAIN, *[CHAIN.letter_sum(at) for at in (0, 0, 1)]),
    (EVEN, EVEN.letter_sum(0), EVEN.letter_sum(0), EVEN.letter_sum(1)), (EVEN, *[EVEN.letter_sum(at) for at in (1, 0, 1)]),
    (EVEN, *[EVEN.letter_sum(0)] * 3), (BALL, *[BALL.letter_sum(0)] * 3), (BALL, BALL.letter_sum(0) * (3, 7), BALL.letter_sum(0) * SIXTY, BALL.letter_sum(0)),
    (CUBES, CUBES.letter_sum(0), CUBES.letter_sum(0) * CUBES.letter_sum(0), CUBES.letter_sum(0) * (1, 2)),
    (CUBES, CUBES.letter_sum(0), CUBES.letter_sum(1) * CUBES.letter_sum(1), CUBES.letter_sum(0)),
    (BOTH, BOTH.letter_sum(0), BOTH.letter_sum(0), BOTH.letter_sum(0) * BOTH.letter_sum(1)),
    (NIL, X * Y, Sum.one((1, 1, 1)), X * Y), (NIL, X, X * Y, Sum.one((1, 1, 1)) * 2), (LONG, *[LONG.letter_sum(0)] * 3),
    (HALF, HALF.letter_sum(0), HALF.letter_sum(1), HALF.letter_sum(0)), (beside(NIL, BALL), *[Sum((1, 1, 1, 2, 3), {(1, 0, 0, 0, 0): 1})] * 3),
]
WITHOUT = [(NIL, X, Z * Y, Z * X, "first"), (BALL, BALL.letter_sum(0), Sum.one((2, 3)), BALL.letter_sum(0), "first"), (NIL, X, Sum.one((1,) * 3), X, "first"),
           (NIL, X, X, Sum.one((1,) * 3), "second"), (TWIST, TWIST.letter_sum(0), TWIST.letter_sum(0), TWIST.letter_sum(2), "second"),
           (EMPTY, *[Sum((), {(): 1})] * 3, "first")]


def total_of(a, b, c):
    return a.degree + b.degree + c.degree - 1


def slow_triple_sum(a, c, pair):
    """x c - (-1) ** |a| a y."""
    return pair[0] * c - a * pair[1] * (-1) ** a.degree


def slow_sort(tower, a, b, c, pair):
    """Which sort of paper is right: whether the triple sum is made by steps and by what can be added."""
    total = total_of(a, b, c)
    width = len(slow_words(tower.letters, total))
    if width == 0:
        return "zero"
    rows = slow_step_rows(tower, total - 1) if total > 0 else []
    rows += [slow_row(tower, q * c, total) for q in closed(tower, a.degree + b.degree - 1)]
    rows += [slow_row(tower, a * p, total) for p in closed(tower, b.degree + c.degree - 1)]
    wanted = slow_row(tower, slow_triple_sum(a, c, pair), total)
    return "zero" if slow_rank(rows + [wanted]) == slow_rank(rows) else "test"


def closed(tower, degree):
    """Closed sums that make all of a degree: a class basis and all steps."""
    if degree < 0:
        return []
    steps = [tower.step(Sum(tower.letters, {word: 1})) for word in slow_words(tower.letters, degree - 1)]
    return list(class_basis(tower, degree)) + [step for step in steps if step]


class TriplesTest(Case):
    def test_constants(self):
        self.same([triples.MAX_LISTED, triples.MAX_TOLD], [150, 80])

    def test_triples(self):
        # [17.1]
        for case in CASES:
            tower, a, b, c = case
            pair = triple(*case)
            self.assertEqual((type(pair), len(pair)), (tuple, 2))
            self.assertEqual([tower.step(pair[0]), tower.step(pair[1])], [a * b, b * c])
            self.assertIs(is_triple(*case, pair), True)
            told = triple_sum(*case, pair)
            self.assertEqual(told, slow_triple_sum(a, c, pair))
            self.assertIs(tower.is_closed(told), True)
            self.assertIn(told.degree, (None, total_of(a, b, c)))
            self.assertTrue(told.is_level)
            for part, degree in zip(pair, (a.degree + b.degree - 1, b.degree + c.degree - 1)):
                self.assertIn(part.degree, (None, degree))
                self.assertTrue(part.is_level)

    def test_all_triples(self):
        # [17.2]
        some = random.Random(1)
        for case in CASES:
            tower, a, b, c = case
            pair = triple(*case)
            told = triple_sum(*case, pair)
            left, right = closed(tower, a.degree + b.degree - 1), closed(tower, b.degree + c.degree - 1)
            for _ in range(3):
                q = sum([a_sum * some.randint(-2, 2) for a_sum in left], Sum(tower.letters, {}))
                p = sum([a_sum * (some.randint(-2, 2), 1) for a_sum in right], Sum(tower.letters, {}))
                other = (pair[0] + q, pair[1] + p)
                self.assertIs(is_triple(*case, other), True)
                self.assertEqual(triple_sum(*case, other), told + q * c - a * p * (-1) ** a.degree)
            # sums that are not closed, or of another degree
            for degree, at in ((a.degree + b.degree - 1, 0), (b.degree + c.degree - 1, 1)):
                for word in slow_words(tower.letters, max(degree, 0)) + slow_words(tower.letters, degree + 1):
                    more = Sum(tower.letters, {word: 1})
                    other = (pair[0] + more, pair[1]) if at == 0 else (pair[0], pair[1] + more)
                    fits = tower.is_closed(more) and more.degree == degree
                    self.assertIs(is_triple(*case, other), fits)
                    if not fits:
                        self.fails("InvalidOperation", None, triple_sum, *case, other)

    def test_values_that_are_no_triples(self):
        case = (NIL, X, X, Y)
        good = (ZERO, Z)
        self.same([is_triple(*case, value) for value in (good, (Z, ZERO), (X, Z), (ZERO, Z + X), (ZERO, Z * 2), (X * Y, Z), (ZERO, Z + X * Y))],
                  [True, False, True, True, False, False, False])
        for value in any_values() + [[ZERO, Z], (ZERO,), (ZERO, Z, ZERO), (ZERO, None), (None, Z), (Sum((1, 1), {}), Z), (0, Z), (ZERO, Sum((1, 1, 2), {}))]:
            self.assertIs(is_triple(*case, value), False)
            self.fails("InvalidOperation", None, triple_sum, *case, value)
        for tower, a, b, c, _ in WITHOUT:
            for value in any_values() + [good, (ZERO, ZERO)]:
                self.assertIs(is_triple(tower, a, b, c, value), False)
                self.assertIs(is_triple_paper(tower, a, b, c, value), False)
                self.fails("InvalidOperation", None, triple_sum, tower, a, b, c, value)

    def test_steps_that_are_added(self):
        # [17.3]
        tower = CHAIN
        a, b, c = [tower.letter_sum(at) for at in range(3)]
        x, y = triple(tower, a, b, c)
        wide = beside(tower, Tower((2,), ({},)))
        letters = wide.letters
        a, b, c, x, y = [Sum(letters, {word + (0,): number for word, number in a_sum}) for a_sum in (a, b, c, x, y)]
        self.assertIs(is_triple(wide, a, b, c, (x, y)), True)
        for tower, case in ((NIL, (X * Z, X, Y)), (FOUR, (FOUR.letter_sum(0) * FOUR.letter_sum(2), FOUR.letter_sum(0), FOUR.letter_sum(1)))):
            one, two, three = case
            pair = triple(tower, *case)
            for index in range(tower.size):
                u = tower.letter_sum(index)
                moved = one + tower.step(u)
                self.assertIs(is_triple(tower, moved, two, three, (pair[0] + u * two, pair[1])), True)
                change = triple_sum(tower, moved, two, three, (pair[0] + u * two, pair[1])) - triple_sum(tower, *case, pair)
                step = tower.step(u * pair[1])
                self.assertIn(change, (step, -step))
                self.assertEqual(triple_paper(tower, moved, two, three)[0], triple_paper(tower, *case)[0])


class PapersTest(Case):
    def test_papers(self):
        # [17.4]
        sorts = []
        for case in CASES:
            tower, a, b, c = case
            paper = triple_paper(*case)
            sorts.append(paper[0])
            self.assertEqual((type(paper), len(paper)), (tuple, 4))
            self.assertIs(is_triple_paper(*case, paper), True)
            self.assertIs(is_triple(*case, paper[1:3]), True)
            self.assertEqual(paper[0], slow_sort(tower, a, b, c, paper[1:3]))
            told = triple_sum(*case, paper[1:3])
            if paper[0] == "zero":
                self.assertEqual(tower.step(paper[3]), told)
                self.assertIn(paper[3].degree, (None, total_of(a, b, c) - 1))
            else:
                words = slow_words(tower.letters, total_of(a, b, c))
                self.assertEqual(len(paper[3]), len(words))
                rows = slow_step_rows(tower, total_of(a, b, c) - 1)
                rows += [slow_row(tower, q * c, total_of(a, b, c)) for q in closed(tower, a.degree + b.degree - 1)]
                rows += [slow_row(tower, a * p, total_of(a, b, c)) for p in closed(tower, b.degree + c.degree - 1)]
                self.assertTrue(all(sum(x * y for x, y in zip(paper[3], row)) == 0 for row in rows))
                self.assertNotEqual(sum(x * y for x, y in zip(paper[3], slow_row(tower, told, total_of(a, b, c)))), 0)
        self.assertGreater(min(sorts.count("zero"), sorts.count("test")), 6)
        for tower, a, b, c, word in WITHOUT:
            self.fails("Refused", (word,), triple, tower, a, b, c)
            self.fails("Refused", (word,), triple_paper, tower, a, b, c)

    def test_papers_by_chance(self):
        # [17.4], and what `triple` refuses
        some = random.Random(11)
        sorts = []
        for table in some_tables(60, 77):
            if brackets_fault(table) is not None:
                continue
            tower = tower_of_brackets(table)
            for _ in range(8):
                a, b, c = [self.some_sum(some, tower, some.choice((1, 1, 2))) for _ in range(3)]
                fits = [not product or slow_is_step(tower, product) for product in (a * b, b * c)]
                if all(fits):
                    paper = triple_paper(tower, a, b, c)
                    self.assertIs(is_triple_paper(tower, a, b, c, paper), True)
                    self.assertEqual(paper[0], slow_sort(tower, a, b, c, paper[1:3]))
                    sorts.append(paper[0])
                else:
                    word = "second" if fits[0] else "first"
                    self.fails("Refused", (word,), triple, tower, a, b, c)
                    sorts.append(word)
        self.assertGreater(min(sorts.count(word) for word in ("zero", "test", "first", "second")), 15)

    def some_sum(self, some, tower, degree):
        """A closed sum of a degree other than 0."""
        made = closed(tower, degree)
        return sum([a_sum * some.choice([1, -1, 2, (1, 3)]) for a_sum in some.sample(made[1:], min(len(made) - 1, 1))], made[0])

    def test_what_is_added_to_a_triple(self):
        # [17.2] and [17.4]: the triple sum is a step once closed sums are added to the one, to the other or to both of a triple
        for low, high in ((2, 3), (3, 5), (4, 7)):
            letters = (low,) * 3 + (high,) * 4
            word = lambda *places: tuple(int(at in places) for at in range(8))
            steps = ({}, {}, {}, {word(0, 1)[:7]: 1}, {word(1, 2)[:7]: 2}, {}, {})
            sign = -1 if low % 2 == 0 else 1
            for first, second in ((0, 0), (5, 0), (0, 5), (5, (-2, 3)), ((1, 7), 4)):
                last = {word(3, 2)[:7]: 1, word(0, 4)[:7]: (sign, 2), word(5, 2)[:7]: first, word(0, 6)[:7]: second}
                # words are told in the order of the indices: x2 x3 instead of x3 x2
                turn = -1 if low % 2 == 1 else 1
                last = {key: (turn * number if isinstance(number, int) else (turn * number[0], number[1])) if key[2] else number for key, number in last.items()}
                tower = Tower(letters + (low + high - 1,), tuple({key + (0,): number for key, number in step.items()} for step in steps + (last,)))
                case = (tower, *[tower.letter_sum(index) for index in range(3)])
                paper = triple_paper(*case)
                self.same(paper[0], "zero")
                self.assertIs(is_triple_paper(*case, paper), True)
                self.assertEqual(tower.step(paper[3]), slow_triple_sum(case[1], case[3], paper[1:3]))
                self.assertEqual(bool(paper[3]), True)
                # without the last letter none is a step
                short = Tower(letters, steps)
                self.same(triple_paper(short, *[short.letter_sum(index) for index in range(3)])[0], "test")

    def test_just_one_sort_is_right(self):
        # [17.4]: a test for one triple is a test for each
        for case in CASES:
            tower, a, b, c = case
            word, x, y, told = triple_paper(*case)
            for q in closed(tower, a.degree + b.degree - 1)[:3]:
                for p in closed(tower, b.degree + c.degree - 1)[:3]:
                    pair = (x + q * 2, y - p * (1, 3))
                    if word == "test":
                        self.assertIs(is_triple_paper(*case, ("test",) + pair + (told,)), True)
                        for degree in (total_of(a, b, c) - 1,):
                            for other in slow_words(tower.letters, max(degree, 0)):
                                self.assertIs(is_triple_paper(*case, ("zero",) + pair + (Sum(tower.letters, {other: 1}),)), False)
                    else:
                        shown = class_paper(tower, triple_sum(*case, pair))
                        if shown[0] == "step":
                            self.assertIs(is_triple_paper(*case, ("zero",) + pair + (shown[1],)), True)
                        else:
                            self.assertIs(is_triple_paper(*case, ("zero",) + pair + (told,)), False)
                            self.assertIs(is_triple_paper(*case, ("test",) + pair + (shown[1],)), False)

    def test_values_near_right_ones(self):
        case = (NIL, X, X, Y)
        for value, wanted in [
            (("test", ZERO, Z, (0, 1, 0)), True), (("test", ZERO, Z, (0, -3, 0)), True), (("test", ZERO, Z, (0, LONGER ** 2, 0)), True),
            (("test", X, Z + Y * (1, 2), (0, 7, 0)), True), (("test", ZERO, Z, (0, 0, 0)), False), (("test", ZERO, Z, (1, 1, 0)), True), (("test", ZERO, Z, (1, 0, 0)), False),
            (("test", ZERO, Z, (0, 1, 1)), False), (("test", ZERO, Z, (0, 1)), False), (("test", ZERO, Z, (0, 1, 0, 0)), False),
            (("test", ZERO, Z, [0, 1, 0]), False), (("test", ZERO, Z, (0, True, 0)), False), (("test", ZERO, Z, (False, 1, 0)), False),
            (("test", ZERO, Z, (0, (1, 1), 0)), False), (("test", ZERO, Z * 2, (0, 1, 0)), False), (("test", Z, Z, (0, 1, 0)), False),
            (("zero", ZERO, Z, ZERO), False), (("zero", ZERO, Z, (0, 1, 0)), False), (("test", ZERO, Z, ZERO), False), (("test", ZERO, Z), False),
            (["test", ZERO, Z, (0, 1, 0)], False), (("test", (ZERO, Z), (0, 1, 0)), False), (("tests", ZERO, Z, (0, 1, 0)), False),
            ((None, ZERO, Z, (0, 1, 0)), False), (("test", None, Z, (0, 1, 0)), False), (("test", ZERO, [], (0, 1, 0)), False),
            (("test", ZERO, Z, None), False), (("test", ZERO, Z, (0, "1", 0)), False), (("test", ZERO, Z, (0, 1, 0), ()), False),
        ]:
            self.assertIs(is_triple_paper(*case, value), wanted)
        same = (NIL, X, X, X)
        for value, wanted in [
            (("zero", ZERO, ZERO, ZERO), True), (("zero", X, X, ZERO), True), (("zero", ZERO, ZERO, X), True), (("zero", ZERO, ZERO, X + Y * 5), True),
            (("zero", Y, ZERO, Z * -1), True), (("zero", Y, ZERO, Z), False), (("zero", Y, Y, ZERO), True), (("zero", Y * LONGER ** 0, ZERO, -Z + X), True),
            (("zero", ZERO, ZERO, X * Y), False), (("zero", ZERO, ZERO, X + X * Y), False), (("zero", ZERO, ZERO, Z), False), (("zero", Z, ZERO, ZERO), False),
            (("zero", ZERO, ZERO, None), False), (("zero", ZERO, ZERO, Sum((1, 1), {})), False), (("zero", ZERO, ZERO, ()), False),
            (("test", ZERO, ZERO, (0, 0, 0)), False), (("test", ZERO, ZERO, (0, 1, 0)), False), (("test", Y, ZERO, (0, 0, 1)), False),
        ]:
            self.assertIs(is_triple_paper(*same, value), wanted)
        for value in any_values():
            for case in ((NIL, X, X, Y), (NIL, X, X, X)):
                self.assertIs(is_triple_paper(*case, value), False)
                self.assertIs(is_triple_paper(*case, ("test", ZERO, Z, value)), False)
                self.assertIs(is_triple_paper(*case, (value, ZERO, Z, (0, 1, 0))), value == "test" and case[3] == Y)
        # integers of more than sixty digits
        long = Sum((1, 1, 1), {(1, 0, 0): SIXTY}) * SIXTY
        self.assertIs(is_triple(NIL, X, X, X, (long, -long)), True)
        self.assertIs(is_triple_paper(NIL, X, X, X, ("zero", long, Y * SIXTY * SIXTY, Z * SIXTY * SIXTY * -1)), False)
        self.assertIs(is_triple_paper(NIL, X, X, X, ("zero", long, Y * SIXTY * SIXTY, Z * SIXTY * SIXTY)), True)
        self.assertIs(is_triple_paper(NIL, X * SIXTY, X * SIXTY, Y * SIXTY, ("test", ZERO, Z * SIXTY * SIXTY, (0, 5, 0))), True)
        self.assertIs(is_triple_paper(NIL, X * SIXTY, X * SIXTY, Y * SIXTY, ("test", ZERO, Z * SIXTY * (SIXTY - 1), (0, 5, 0))), False)

    def test_plain_towers_whose_classes_have_the_grade_0(self):
        # [17.5]
        for tower in (projective(2, 3), sphere(4), spaces(2, 4), flags(3), beside(BALL, projective(2, 2))):
            self.same(top_grade(tower), 0)
            self.assertTrue(all(not any(grade_row(tower, grade)) for grade in (1, 2)))
            sums = [a_sum for degree in range(2, 9) for a_sum in class_basis(tower, degree)]
            steps = [tower.step(tower.letter_sum(index)) for index in range(tower.size)]
            tried = 0
            for a, b, c in itertools.product(sums[:4] + [step for step in steps if step][:2], repeat=3):
                if slow_is_step(tower, a * b) and slow_is_step(tower, b * c):
                    tried += 1
                    self.assertEqual(triple_paper(tower, a, b, c)[0], "zero")
            self.assertGreater(tried, 0)


class ErrorsTest(Case):
    CALLS = ((triple, ()), (is_triple, (None,)), (triple_sum, (None,)), (triple_paper, ()), (is_triple_paper, (None,)))

    def test_wrong_kinds(self):
        for call, more in self.CALLS:
            for value in any_values():
                if not isinstance(value, Tower):
                    self.fails("InvalidTower", None, call, value, None, None, None, *more)
                if not isinstance(value, Sum) or value.letters != (2, 3):
                    for given in ((value, None, None), (BALL.letter_sum(1), value, None), (BALL.letter_sum(1), ball_zero(), value)):
                        self.fails("InvalidSum", None, call, BALL, *given, *more)

    def test_sums_that_do_not_fit(self):
        one = Sum.one((1, 1, 1))
        for call, more in self.CALLS:
            for wrong in (ZERO, Z, X + one, X + X * Y, Z * Z + Z):
                for at in range(3):
                    given = [X, X, X]
                    given[at] = wrong
                    self.fails("InvalidOperation", None, call, NIL, *given, *more)

    def test_degrees(self):
        # degrees that add up to 81 and to 82
        tower = Tower((27, 28, 27), ({}, {}, {}))
        low, high, other = [tower.letter_sum(index) for index in range(3)]
        self.same([a_sum.degree for a_sum in (low, high)], [27, 28])
        self.assertEqual(triple(tower, low, low, low), (low - low, low - low))
        self.assertEqual(triple_paper(tower, low, low, low)[0], "zero")
        self.fails("Refused", ("first",), triple, tower, low, other, low)
        self.fails("Refused", ("second",), triple, tower, low, low, other)
        for call, more in self.CALLS:
            self.fails("TooMany", 80, call, tower, low, low, high, *more)
            self.fails("TooMany", 80, call, tower, high, high, high, *more)
            self.fails("TooMany", 80, call, Tower((2,), ({},)), *[Sum((2,), {(14,): 1})] * 3, *more)
        free = Tower((2,), ({},))
        self.fails("Refused", ("first",), triple, free, *[Sum((2,), {(13,): 1})] * 3)

    def test_both_products_are_no_steps(self):
        self.fails("Refused", ("first",), triple, NIL, X, Z * Y, X)
        self.fails("Refused", ("first",), triple_paper, NIL, Sum.one((1, 1, 1)), X, Sum.one((1, 1, 1)))
        self.fails("InvalidOperation", None, triple_sum, NIL, Sum.one((1, 1, 1)), X, Sum.one((1, 1, 1)), (ZERO, ZERO))

    def test_too_many_words(self):
        # even letters of which a degree has exactly 150 words, and odd letters whose squares are 0
        letters = (2, 2, 2, 6, 1, 7, 9, 11, 13, 15)
        told = {}
        for degree in range(1, 60):
            told[degree] = word_count(letters[:5], degree)
        tower = Tower(letters[:5], ({},) * 5)
        e = tower.letter_sum(4)
        even = lambda n: Sum(tower.letters, {(n // 2, 0, 0, 0, 0): 1})
        self.same([told[22], told[23], max(told[n] for n in range(1, 24))], [150, 150, 150])
        self.assertGreater(told[24], 150)
        # the degrees a b, b c, a b c - 1, and one less than each: 23 and 22 have 150 words, 24 has more
        for a, b, c, fits in [
            (e, e, e * even(20), True), (e * even(20), e, e, True), (e, e * even(20), e, True), (e, e, e * even(22), False), (e * even(22), e, e, False),
            (e, e * even(22), e, False), (e * even(10), e, e * even(10), True), (e * even(12), e, e * even(12), False), (e * even(10), e, e * even(12), False),
            (e * even(10), e * even(10), e, True),
        ]:
            degrees = [a.degree + b.degree, b.degree + c.degree, total_of(a, b, c)]
            self.assertEqual(fits, all(word_count(letters[:5], n - k) <= 150 for n in degrees for k in (0, 1)))
            for call, more in self.CALLS:
                if fits:
                    if call is triple_sum:
                        self.fails("InvalidOperation", None, call, tower, a, b, c, *more)
                    else:
                        call(tower, a, b, c, *more)
                else:
                    self.fails("TooMany", 150, call, tower, a, b, c, *more)
            if fits:
                self.same(triple_paper(tower, a, b, c)[0], "zero")

    def test_each_degree_that_is_asked_for(self):
        # ten letters of the degree 1: more than 150 words of the degrees 4 to 6 alone; just one degree that is asked for is among them
        parts = {degree: Sum(ROW.letters, {(1,) * degree + (0,) * (10 - degree): 1}) for degree in range(11)}
        self.same([degree for degree in range(11) if word_count(ROW.letters, degree) > 150], [4, 5, 6])
        for degrees, told in (((3, 1, 7), (4,)), ((6, 1, 2), (6,)), ((7, 1, 3), (4,)), ((2, 1, 6), (6,)), ((2, 1, 2), (4,)), ((0, 2, 6), (6,)), ((2, 1, 1), ()),
                              ((7, 1, 7), ()), ((1, 1, 1), ()), ((7, 1, 2), ())):
            a, b, c = degrees
            near = [a + b, b + c, a + b + c - 1]
            self.assertEqual(sorted({n - k for n in near for k in (0, 1)} & {4, 5, 6}), sorted(set(told)))
            given = [parts[degree] for degree in degrees]
            for call, more in self.CALLS:
                if told:
                    self.fails("TooMany", 150, call, ROW, *given, *more)
                elif call is triple_sum:
                    self.fails("InvalidOperation", None, call, ROW, *given, *more)
                else:
                    call(ROW, *given, *more)

    def test_sums_with_very_many_words(self):
        # 400 words each, whose products have few words: no error of the bound of products is told
        letters = (1,) * 12
        tower = Tower(letters, ({},) * 12)
        words = slow_words(letters, 6)
        wide = Sum(letters, {word: 1 for word in words[:400]})
        parts = [Sum(letters, {word: 1 for word in words[at:at + 100]}) for at in range(524, 924, 100)]
        last = parts[0] + parts[1] + parts[2] + parts[3]
        self.assertEqual((len(wide), len(last)), (400, 400))
        self.fails("TooMany", 40000, lambda: wide * last)
        whole = sum([wide * part for part in parts[1:]], wide * parts[0])
        self.assertEqual(triple_paper(tower, wide, wide, wide)[0], "zero")
        self.assertTrue(whole)
        self.fails("Refused", ("first",), triple, tower, wide, last, wide)
        self.fails("Refused", ("second",), triple, tower, wide, wide, last)
        self.assertIs(is_triple(tower, wide, wide, wide, (whole - whole, whole - whole)), True)

    def test_what_is_not_true(self):
        # [17.6]: products 0, and a triple whose sum is not
        self.assertEqual(X * X, ZERO)
        self.assertNotEqual(triple_sum(NIL, X, X, X, (Y, ZERO)), ZERO)
        # the sorts for c, b and a are those for a, b and c
        for tower, a, b, c in CASES:
            self.assertEqual(triple_paper(tower, a, b, c)[0], triple_paper(tower, c, b, a)[0])
        one, other = triple_sum(NIL, X, X, Y, (ZERO, Z)), triple_sum(NIL, X, X, Y, (X, Z))
        self.assertEqual(class_paper(NIL, one - other)[0], "step")
        case = (NIL, X, X, X * Z)
        x, y = triple(*case)
        first, second = triple_sum(*case, (x, y)), triple_sum(*case, (x + Y, y))
        self.assertEqual(class_paper(NIL, first - second)[0], "test")


def ball_zero():
    return BALL.letter_sum(0) - BALL.letter_sum(0)


if __name__ == "__main__":
    unittest.main()
