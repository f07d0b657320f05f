"""Stage 3, sums of words: [3.1] to [3.6], with [0.2], [0.9] and [0.1] for objects."""

import itertools
import random
import unittest
from fractions import Fraction

from stepletters.towers.towers import Tower
from stepletters.words import sums
from stepletters.words.sums import Sum, placed, plain_sum, power
from support import (HUGE, LONGER, SIXTY, Case, any_values, as_fractions, fraction, ratio, slow_sorted, slow_words,
                     spelled)

THREE = (2, 3, 3)
X, Y, Z = [Sum.letter(THREE, index) for index in range(3)]
ONE = Sum.one(THREE)
SOME = Sum(THREE, {(2, 0, 0): (1, 2), (0, 1, 0): -1, (0, 0, 0): 3, (1, 1, 1): 0})
NOT_TERMS = [None, True, 0, "a", (), ((1, 0, 0), 1), [((1, 0, 0), 1)], SOME, {(1, 0): 1}, {(0, 2, 0): 1},
             {(-1, 0, 0): 1}, {(True, 0, 0): 1}, {"a": 1}, {None: 1}, {1: 1}, {(201, 0, 0): 1}, {(1, 0, 0): True},
             {(1, 0, 0): None}, {(1, 0, 0): "1"}, {(1, 0, 0): (2, 4)}, {(1, 0, 0): (1, 0)}, {(1, 0, 0): (1, -2)},
             {(1, 0, 0): LONGER}, {(1, 0, 0): (1, LONGER)}, {(1, 0, 0): (1, 2, 3)}, {(1, 0, 0): [1, 2]},
             {(1, 0, 0): (0, 2)}, {(1, 0, 0): (1, True)}, {(1, 0, 0): 1, (0, 0, 2): 0}, {((1, 0, 0),): 1}]
OTHER_KINDS = [None, True, False, "ab", [1, 2], {}, {(1, 0, 0): 1}, Tower((), ())]


def some_sums(letters, seed, many=12):
    """Sums with a few words each."""
    dice = random.Random(seed)
    words = [word for degree in range(8) for word in slow_words(letters, degree)]
    found = [Sum(letters, {})]
    for _ in range(many):
        chosen = dice.sample(words, min(len(words), dice.randint(1, 5)))
        found.append(Sum(letters, {word: ratio(Fraction(dice.randint(-6, 6), dice.randint(1, 5))) for word in chosen}))
    return found


def slow_product(one, other):
    """The product of two sums as a dict with fractions."""
    found = {}
    for (left, a), (right, b) in itertools.product(as_fractions(one).items(), as_fractions(other).items()):
        made = slow_sorted(one.letters, spelled(left) + spelled(right))
        if made is not None:
            found[made[1]] = found.get(made[1], 0) + made[0] * a * b
    return {word: number for word, number in found.items() if number}


def wide_sum(many, start=0):
    """A sum of so many words in one letter of the degree 1 and two of the degree 2."""
    words = [(0, first, second) for first in range(30) for second in range(30)][start:start + many]
    return Sum((1, 2, 2), {word: 1 for word in words})


class MakingTest(Case):
    def test_constants(self):
        self.same((sums.MAX_TERMS, sums.MAX_PAIRS, sums.MAX_POWER), (400, 40000, 40))

    def test_terms(self):
        self.same(SOME.terms, {(0, 0, 0): (3, 1), (0, 1, 0): (-1, 1), (2, 0, 0): (1, 2)})
        self.same(list(SOME.terms), [(0, 0, 0), (0, 1, 0), (2, 0, 0)])
        self.same(SOME.letters, THREE)
        self.same(Sum((), {(): 7}).terms, {(): (7, 1)})
        self.same(Sum((), {}).terms, {})
        self.same(Sum((2,), {(1,): 0, (2,): (0, 1)}).terms, {})
        self.same(Sum((2,), {(1,): SIXTY, (200,): (-SIXTY, 2)}).terms, {(1,): (SIXTY, 1), (200,): (-SIXTY, 2)})

    def test_wrong_terms(self):
        for value in NOT_TERMS:
            self.fails("InvalidSum", None, Sum, THREE, value)
        for value in any_values():
            if value != {}:
                self.fails("InvalidSum", None, Sum, THREE, value)
        for letters in (None, [2], (0,), (True,), (2,) * 25, "ab"):
            self.fails("InvalidLetters", None, Sum, letters, None)
            self.fails("InvalidLetters", None, Sum.one, letters)
            self.fails("InvalidLetters", None, Sum.letter, letters, None)

    def test_400_terms_and_401(self):
        self.assertEqual(len(wide_sum(400)), 400)
        words = [(0, first, second) for first in range(30) for second in range(30)]
        self.fails("InvalidSum", None, Sum, (1, 2, 2), {word: 1 for word in words[:401]})
        # an entry with the number 0 is an entry, too
        self.fails("InvalidSum", None, Sum, (1, 2, 2), {word: 0 for word in words[:401]})
        self.assertEqual(len(Sum((1, 2, 2), {word: 0 for word in words[:400]})), 0)

    def test_letters_and_one(self):
        self.same([Sum.letter(THREE, index).terms for index in range(3)],
                  [{(1, 0, 0): (1, 1)}, {(0, 1, 0): (1, 1)}, {(0, 0, 1): (1, 1)}])
        self.same(ONE.terms, {(0, 0, 0): (1, 1)})
        self.same(Sum.one(()).terms, {(): (1, 1)})
        for value in (None, True, False, -1, 3, LONGER, "0", (0,), [0]):
            self.fails("InvalidNumber", value, Sum.letter, THREE, value)
        self.fails("InvalidNumber", 0, Sum.letter, (), 0)

    def test_no_state_is_shared(self):
        terms = {(1, 0, 0): 1}
        made = Sum(THREE, terms)
        terms[(2, 0, 0)] = 5
        self.same(made.terms, {(1, 0, 0): (1, 1)})
        made.terms[(0, 0, 0)] = (1, 1)
        made.terms.clear()
        self.same(made.terms, {(1, 0, 0): (1, 1)})
        one, other = Sum(THREE, {(1, 0, 0): 1}), Sum(THREE, {(1, 0, 0): 2})
        before = (one.terms, other.terms)
        one + other, one - other, one * other, -one, one * 3, power(one, 3), plain_sum(other), one.part(2)
        one += other
        self.same((other.terms, Sum(THREE, {(1, 0, 0): 1}).terms), (before[1], before[0]))


class ReadingTest(Case):
    def test_levels_and_degrees(self):
        self.assertEqual((SOME.is_level, SOME.degree), (False, None))
        zero = Sum(THREE, {})
        self.assertEqual((zero.is_level, zero.degree), (True, None))
        self.same(((X * X * X + Y * Z).is_level, (X * X * X + Y * Z).degree), (True, 6))
        self.same((ONE.is_level, ONE.degree), (True, 0))
        for a_sum in some_sums(THREE, 1):
            degrees = {sum(d * e for d, e in zip(THREE, word)) for word in a_sum.terms}
            self.same(a_sum.is_level, len(degrees) < 2)
            self.same(a_sum.degree, degrees.pop() if len(degrees) == 1 else None)

    def test_number_at(self):
        self.same(SOME.number_at((2, 0, 0)), (1, 2))
        self.same(SOME.number_at((0, 1, 0)), (-1, 1))
        self.same(SOME.number_at((1, 1, 1)), (0, 1))
        self.same(SOME.number_at((200, 0, 0)), (0, 1))
        for value in (None, (), (0, 2, 0), (0, True, 0), [0, 1, 0], (201, 0, 0), (0, 1), "abc", (0, 1, 0, 0), 5):
            self.fails("InvalidWord", None, SOME.number_at, value)

    def test_parts(self):
        for a_sum in some_sums(THREE, 2):
            total = Sum(THREE, {})
            for degree in range(20):
                part = a_sum.part(degree)
                self.assertEqual(part.terms, {word: number for word, number in a_sum.terms.items()
                                              if sum(d * e for d, e in zip(THREE, word)) == degree})
                self.assertTrue(part.is_level)
                total = total + part
            self.assertEqual(total, a_sum)
        self.same(SOME.part(SIXTY).terms, {})
        for value in (None, True, False, -1, LONGER, "1", (1,), [1]):
            self.fails("InvalidNumber", value, SOME.part, value)

    def test_in(self):
        self.assertIs((0, 1, 0) in SOME, True)
        self.assertIs((0, True, 0) in SOME, False)
        self.assertIs((False, 0, 0) in SOME, False)
        for value in any_values() + [[0, 1, 0], ([0], 1, 0), (0, 1), (0, 1, 0, 0), (1, 0, 0), "010", {0: 1}, {(0, 1, 0)}]:
            self.assertIs(value in SOME, False)
        # a word of a returned sum can have a degree that no passed one can have
        self.assertIs((300, 0, 0) in power(Sum(THREE, {(150, 0, 0): 1}), 2), True)
        self.assertIs(() in Sum.one(()), True)

    def test_len_bool_and_iteration(self):
        for a_sum in some_sums(THREE, 3):
            self.same(len(a_sum), len(a_sum.terms))
            self.assertIs(bool(a_sum), len(a_sum.terms) > 0)
            self.same(list(a_sum), sorted(a_sum.terms.items()))
            self.same(list(a_sum), list(a_sum))
        self.same(list(SOME), [((0, 0, 0), (3, 1)), ((0, 1, 0), (-1, 1)), ((2, 0, 0), (1, 2))])

    def test_equality(self):
        self.assertIs(Sum(THREE, {(1, 0, 0): 2}) == Sum(THREE, {(1, 0, 0): (2, 1), (0, 1, 0): 0}), True)
        self.assertIs(Sum(THREE, {(1, 0, 0): 2}) != Sum(THREE, {(1, 0, 0): 2}), False)
        self.assertIs(Sum(THREE, {}) == Sum((2, 3), {}), False)
        self.assertIs(Sum((2, 2), {(1, 0): 1}) == Sum((2, 4), {(1, 0): 1}), False)
        for value in any_values() + [X.terms, 0, str(X)]:
            self.assertIs(X == value, False)
            self.assertIs(X != value, True)

    def test_texts(self):
        self.same(str(SOME), "3 - x1 + 1/2 x0**2")
        told = {"0": {}, "1": {(0, 0, 0): 1}, "-1": {(0, 0, 0): -1}, "-1/2": {(0, 0, 0): (-1, 2)}, "x1": {(0, 1, 0): 1},
                "-x1": {(0, 1, 0): -1}, "2 x1 x2": {(0, 1, 1): 2}, "-3/2 x0**10": {(10, 0, 0): (-3, 2)},
                "-1 + x0": {(0, 0, 0): -1, (1, 0, 0): 1}, "x2 - x1 x2 - 2/3 x0 + x0**3 x1":
                {(0, 0, 1): 1, (0, 1, 1): -1, (1, 0, 0): (-2, 3), (3, 1, 0): 1},
                "1 - 7 x0": {(0, 0, 0): 1, (1, 0, 0): -7}}
        for text, terms in told.items():
            self.same(str(Sum(THREE, terms)), text)
        self.same(str(Sum((2,) * 12, {(0,) * 11 + (2,): 1, (0,) * 10 + (1, 1): 5})), "x11**2 + 5 x10 x11")
        self.same(str(Sum((), {(): (5, 3)})), "5/3")

    def test_texts_of_very_long_numbers(self):
        long = power(Sum((), {(): 10 ** 59 + 1}), 40)
        longer = long * long * long
        number = (10 ** 59 + 1) ** 120
        head, tail = divmod(number, 10 ** 4000)
        self.assertGreater(number, 10 ** 5000)
        self.assertEqual(str(longer), str(head) + str(tail).zfill(4000))
        self.assertEqual(str(-longer), "-" + str(head) + str(tail).zfill(4000))


class ReckoningTest(Case):
    def test_sums_and_differences(self):
        found = some_sums(THREE, 4)
        for one, other in itertools.product(found, found):
            words = set(one.terms) | set(other.terms)
            a, b = as_fractions(one), as_fractions(other)
            plus = {word: a.get(word, 0) + b.get(word, 0) for word in words}
            minus = {word: a.get(word, 0) - b.get(word, 0) for word in words}
            self.assertEqual(as_fractions(one + other), {word: number for word, number in plus.items() if number})
            self.assertEqual(as_fractions(one - other), {word: number for word, number in minus.items() if number})
            self.same(list((one + other).terms), sorted((one + other).terms))
            self.assertEqual(one + -other, one - other)
            self.assertEqual(-(one - other), other - one)

    def test_products(self):
        for letters in (THREE, (1, 1, 1, 2), (4, 2), ()):
            found = some_sums(letters, 5)
            for one, other in itertools.product(found, found):
                self.assertEqual(as_fractions(one * other), slow_product(one, other))
                self.same(list((one * other).terms), sorted((one * other).terms))

    def test_rules_of_products(self):
        found = some_sums((1, 1, 2, 3), 6)
        one = Sum.one((1, 1, 2, 3))
        for u, v, w in itertools.product(found[:6], found[4:9], found[7:]):
            self.assertEqual((u * v) * w, u * (v * w))
            self.assertEqual(u * (v + w), u * v + u * w)
        for u in found:
            self.assertEqual((one * u, u * one), (u, u))
            for m, n in itertools.product(range(5), range(5)):
                a, b = u.part(m), found[3].part(n)
                self.assertEqual(b * a, -(a * b) if m % 2 and n % 2 else a * b)
                self.assertTrue((a * b).is_level)
                if len(a * b) > 0:
                    self.assertEqual((a * b).degree, m + n)
                if m % 2:
                    self.assertEqual(len(a * a), 0)

    def test_multiples(self):
        for number in (0, 1, -1, 5, (2, 3), (-7, 2), (0, 1), SIXTY, (1, SIXTY)):
            made = SOME * number
            wanted = {word: value * fraction(number) for word, value in as_fractions(SOME).items()}
            self.assertEqual(as_fractions(made), {word: value for word, value in wanted.items() if value})
        self.same((X * 0).terms, {})
        for number in (LONGER, -LONGER, HUGE, (), (1,), (2, 4), (1, 0), (1, -1), (1, 2, 3), (True, 1), (1, None),
                       (LONGER, 1), ((1, 2), 1)):
            self.fails("InvalidNumber", number, X.__mul__, number)
            with self.assertRaises(IndexError):
                X * number

    def test_other_letters(self):
        other = Sum((2, 3), {(1, 0): 1})
        for call in (X.__add__, X.__sub__, X.__mul__):
            for value in (other, Sum((), {}), Sum((2, 3, 5), {}), Sum((3, 3, 2), {})):
                self.fails("InvalidSum", None, call, value)
        # other letters are told ahead of too many pairs
        wide = wide_sum(400) + wide_sum(400, 400)
        many = Sum((2, 2), {(first, second): 1 for first in range(20) for second in range(20)})
        self.fails("InvalidSum", None, wide.__mul__, many)

    def test_other_kinds(self):
        for value in OTHER_KINDS:
            for call in (lambda a, b: a + b, lambda a, b: a - b, lambda a, b: a * b):
                with self.assertRaises(TypeError):
                    call(X, value)
                with self.assertRaises(TypeError):
                    call(value, X)
        for value in (0, 1, (1, 2)):
            for call in (lambda a, b: a + b, lambda a, b: a - b):
                with self.assertRaises(TypeError):
                    call(X, value)
                with self.assertRaises(TypeError):
                    call(value, X)
        for call in (lambda: X < Y, lambda: X ** 2, lambda: X[0], lambda: X // 2, lambda: 2 * X, lambda: (1, 2) * X,
                     lambda: +X, lambda: abs(X), lambda: X & Y):
            with self.assertRaises(TypeError):
                call()

    def test_40000_pairs_and_more(self):
        wide, other = wide_sum(200), wide_sum(200, 100)
        self.assertGreater(len(wide * other), 200)
        self.fails("TooMany", 40000, wide.__mul__, wide_sum(201))
        self.fails("TooMany", 40000, wide_sum(201).__mul__, wide)
        self.assertEqual(len(wide_sum(400) * Sum((1, 2, 2), {})), 0)
        more = wide_sum(400) + wide_sum(400, 400)
        self.assertEqual(len(more), 800)
        self.assertEqual(len(more * Sum.one((1, 2, 2))), 800)
        self.assertEqual(more * 2 - more, more)

    def test_untrue_statements(self):
        # [3.6]
        self.assertEqual(((Y * Z).degree, len((Y * Z) * (Y * Z))), (6, 0))
        self.assertEqual(len(Y * (Y * X)), 0)


class FunctionsTest(Case):
    def test_powers(self):
        for a_sum in some_sums(THREE, 7):
            wanted = Sum.one(THREE)
            for many in range(4):
                self.assertEqual(power(a_sum, many), wanted)
                wanted = wanted * a_sum
        self.same(power(X, 40).terms, {(40, 0, 0): (1, 1)})
        self.same(power(Sum(THREE, {}), 0).terms, ONE.terms)
        self.same(power(Sum(THREE, {}), 40).terms, {})
        self.same(power(X * SIXTY, 40).terms, {(40, 0, 0): (SIXTY ** 40, 1)})

    def test_power_errors(self):
        for value in any_values():
            if not isinstance(value, Sum):
                self.fails("InvalidSum", None, power, value, None)
                self.fails("InvalidSum", None, placed, value, None, None)
                self.fails("InvalidSum", None, plain_sum, value)
        for value in (None, True, False, -1, 41, LONGER, "2", (2,), [2]):
            self.fails("InvalidNumber", value, power, wide_sum(400), value)
        wide = wide_sum(201)
        self.assertEqual(power(wide, 1), wide)
        self.fails("TooMany", 40000, power, wide, 2)
        self.fails("TooMany", 40000, power, wide, 40)
        # the third product is refused, the second one is not
        narrow = wide_sum(120)
        self.assertGreater(len(narrow * narrow) * 120, 40000)
        self.assertEqual(power(narrow, 2), narrow * narrow)
        self.fails("TooMany", 40000, power, narrow, 3)

    def test_placing(self):
        self.same(placed(Y * Z, (3, 2, 3), (1, 2, 0)).terms, {(1, 0, 1): (-1, 1)})
        self.assertEqual(placed(SOME, THREE, (0, 1, 2)), SOME)
        self.same(placed(Sum.one(()), (5, 4), ()).terms, {(0, 0): (1, 1)})
        letters, others = (1, 1, 2, 3), (3, 2, 1, 5, 1, 1)
        for places in itertools.permutations(range(6), 4):
            if [others[place] for place in places] != list(letters):
                self.fails("InvalidOperation", None, placed, Sum(letters, {}), others, places)
                continue
            for a_sum in some_sums(letters, 8, 5):
                wanted = {}
                for word, number in as_fractions(a_sum).items():
                    sign, made = slow_sorted(others, [places[index] for index in spelled(word)])
                    wanted[made] = sign * number
                found = placed(a_sum, others, places)
                self.assertEqual(found.letters, others)
                self.assertEqual(as_fractions(found), wanted)
                self.same(list(found.terms), sorted(found.terms))
                twice = placed(a_sum * a_sum, others, places)
                self.assertEqual(twice, found * found)

    def test_placing_errors(self):
        self.fails("InvalidLetters", None, placed, SOME, (0,), None)
        self.fails("InvalidLetters", None, placed, SOME, None, (0, 1, 2))
        wrong = [None, True, "012", [0, 1, 2], {0: 1}, (), (0, 1), (0, 1, 2, 2), (0, 1, 1), (1, 0, 2), (0, 1, 3),
                 (0, -2, 2), (False, 1, 2), (0, True, 2), (0, 1, None), (0, 1, (2,)), (0, 1, LONGER), (0, 1, "2")]
        for places in wrong:
            self.fails("InvalidOperation", None, placed, SOME, THREE, places)

    def test_plain_sums(self):
        self.same(plain_sum(SOME * (-1, 3)).terms, {(0, 0, 0): (6, 1), (0, 1, 0): (-2, 1), (2, 0, 0): (1, 1)})
        self.assertEqual(plain_sum(Sum(THREE, {})), Sum(THREE, {}))
        for a_sum in some_sums(THREE, 9):
            made = plain_sum(a_sum)
            self.assertTrue(all(bottom == 1 for _top, bottom in made.terms.values()))
            self.assertEqual(set(made.terms), set(a_sum.terms))
            if len(a_sum) > 0:
                first = next(iter(a_sum))[0]
                scale = fraction(made.number_at(first)) / fraction(a_sum.number_at(first))
                self.assertGreater(made.number_at(first)[0], 0)
                self.assertEqual(as_fractions(made), {w: n * scale for w, n in as_fractions(a_sum).items()})
                self.assertEqual(plain_sum(made), made)
            for factor in (-1, (3, 7), (-12, 5), SIXTY):
                self.assertEqual(plain_sum(a_sum * factor), made)
        long = power(Sum(THREE, {(1, 0, 0): SIXTY, (0, 0, 0): (1, SIXTY - 1)}), 3)
        self.assertEqual(plain_sum(long * -4), plain_sum(long))

    def test_long_returned_sums_can_be_passed_on(self):
        wide = wide_sum(200) * wide_sum(200, 150) * SIXTY
        self.assertGreater(len(wide), 400)
        self.assertEqual(power(wide * SIXTY, 1), wide * SIXTY)
        self.assertEqual(placed(wide, (2, 1, 2), (1, 2, 0)).terms[(0, 0, 5)], wide.terms[(0, 5, 0)])
        self.assertEqual(len(plain_sum(wide)), len(wide))


if __name__ == "__main__":
    unittest.main()
