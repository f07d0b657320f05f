"""Stage 15, loops: [15.1] to [15.6]."""

import itertools
import random
import unittest

from stepletters.algebras import loops
from stepletters.algebras.algebras import Algebra
from stepletters.algebras.least import least_tower, letter_counts
from stepletters.algebras.loops import counts_of_series, free_counts, loop_series, paired_counts, series_of_counts
from support import HUGE, LONGER, SIXTY, Case, any_values

WRONG = (None, True, False, -1, 61, LONGER, -LONGER, HUGE, "3", (3,), [3], {})


def times(one, other):
    """The product of two series of equally many entries."""
    return [sum(one[i] * other[n - i] for i in range(n + 1)) for n in range(len(one))]


def inverse(series):
    """What makes 1 with a series that begins with 1."""
    found = [1]
    for n in range(1, len(series)):
        found.append(-sum(series[i] * found[n - i] for i in range(1, n + 1)))
    return found


def factor(degree, most):
    """The factor of a letter of a degree."""
    size = degree - 1
    if degree % 2 == 0:
        return [1 if at in (0, size) else 0 for at in range(most + 1)]
    return [1 if at % size == 0 else 0 for at in range(most + 1)]


def slow_series(counts, most):
    """The product of the factors, one by one."""
    found = [1] + [0] * most
    for degree, count in enumerate(counts, 2):
        one = factor(degree, most)
        for _ in range(abs(count)):
            found = times(found, one if count > 0 else inverse(one))
    return tuple(found)


def slow_counts(series):
    """The letter counts, found letter by letter."""
    rest, found = list(series), []
    for degree in range(2, len(series) + 1):
        count = rest[degree - 1]
        found.append(count)
        one = factor(degree, len(series) - 1)
        for _ in range(abs(count)):
            rest = times(rest, inverse(one) if count > 0 else one)
    return tuple(found)


def mu(number):
    found = 1
    for prime in range(2, number + 1):
        if number % prime == 0:
            number //= prime
            found = -found
            if number % prime == 0:
                return 0
    return found


def told_counts(many, degree, most):
    """The letter counts of [15.4]."""
    def plain(k):
        return sum(mu(e) * many ** (k // e) for e in range(1, k + 1) if k % e == 0) // k

    found = [0] * (most - 1)
    for k in range(1, most):
        at = k * (degree - 1) + 1
        if at <= most:
            found[at - 2] = plain(k) + (plain(k // 2) if degree % 2 == 0 and k % 4 == 2 else 0)
    return tuple(found)


class SeriesTest(Case):
    def test_constants(self):
        self.same([loops.MOST_LOOP, loops.MOST_UNITS], [60, 12])

    def test_loop_series(self):
        # [15.1]
        for letters in ((), (2,), (3,), (40,), (39,), (2, 3, 3, 5), (7, 4, 2, 2), (2,) * 6, (3,) * 4, (2, 40, 39, 3)):
            for most in (0, 1, 6, 13):
                counts = [letters.count(degree) for degree in range(2, most + 2)]
                self.same(loop_series(letters, most), slow_series(counts, most))
        self.same(loop_series((3,), 60), (1, 0) * 30 + (1,))
        self.same(loop_series((2,) * 24, 60)[:3], (1, 24, 276))
        self.same(loop_series((40,), 60), (1,) + (0,) * 38 + (1,) + (0,) * 21)
        # words in loop letters, counted one by one
        loop = (1, 1, 2, 3)
        words = [word for word in itertools.product(range(2), range(2), range(6), range(2)) if sum(map(int.__mul__, word, loop)) <= 9]
        wanted = tuple(len([word for word in words if sum(map(int.__mul__, word, loop)) == n]) for n in range(10))
        self.same(loop_series((2, 2, 3, 4), 9), wanted)

    def test_errors_of_loop_series(self):
        for value in any_values():
            if not (isinstance(value, tuple) and value in ((), (2, 4))):
                self.fails("InvalidLetters", None, loop_series, value, -1)
        for letters in ((1,), (2, 1, 3), (2,) * 25, (41,), (0,), [2], (True, 2), (2, True), (LONGER,)):
            self.fails("InvalidLetters", None, loop_series, letters, None)
        for most in WRONG:
            self.fails("InvalidNumber", most, loop_series, (2, 3), most)

    def test_counts_and_series(self):
        # [15.2]
        some = random.Random(1)
        for _ in range(60):
            counts = tuple(some.randint(-4, 4) for _ in range(some.randint(0, 9)))
            series = series_of_counts(counts)
            self.same(series, slow_series(counts, len(counts)))
            self.same(counts_of_series(series), counts)
        for _ in range(30):
            series = (1,) + tuple(some.randint(-3, 3) for _ in range(some.randint(0, 7)))
            counts = counts_of_series(series)
            self.same(counts, slow_counts(series))
            if all(abs(count) <= 1000 for count in counts):
                self.same(series_of_counts(counts), series)
        for letters in ((2,), (2, 3, 3), (5, 4), (3,) * 7, (2, 2, 11)):
            self.same(counts_of_series(loop_series(letters, 12)), tuple(letters.count(degree) for degree in range(2, 14)))

    def test_edges_of_series(self):
        self.same([counts_of_series((1,)), counts_of_series((1, 0)), counts_of_series((1, 7))], [(), (0,), (7,)])
        self.same([series_of_counts(()), series_of_counts((0,)), series_of_counts((-1000,)), series_of_counts((1000,))],
                  [(1,), (1, 0), (1, -1000), (1, 1000)])
        self.same(counts_of_series((1,) + (0,) * 60), (0,) * 60)
        self.same(series_of_counts((0,) * 60), (1,) + (0,) * 60)
        self.same(counts_of_series((1, SIXTY)), (SIXTY,))
        # longer integers come out: the square of t ** 1 is left over to the power of the first count
        self.same(counts_of_series((1, SIXTY, 0)), (SIXTY, -(SIXTY * (SIXTY - 1)) // 2))
        self.same(counts_of_series((1, -SIXTY, 0, -SIXTY))[:2], (-SIXTY, -(SIXTY * (SIXTY + 1)) // 2))
        long = series_of_counts((1000,) * 60)
        self.same(long[:4], (1, 1000, 499500 + 1000, 166167000 + 1000000 + 1000))
        self.same(len(long), 61)
        self.assertGreater(long[-1], LONGER)
        back = series_of_counts((-1000,) * 60)
        self.same(tuple(times(long, back)), (1,) + (0,) * 60)
        short = series_of_counts((3, -2, 1) * 20)
        self.same(counts_of_series(short), (3, -2, 1) * 20)

    def test_errors_of_series(self):
        for value in any_values():
            if not (isinstance(value, tuple) and value in ((1,), (1, 2), (1, 0), (1, -1), (1, 2, 3)) and value[0] is not True
                    and True not in [entry is True for entry in value]):
                self.fails("InvalidOperation", None, counts_of_series, value)
        for series in ((), (1,) + (0,) * 61, (0,), (2,), (-1, 1), (1, None), (1, True), (True,), (1, LONGER), [1], (1, (1, 1)), ("1",)):
            self.fails("InvalidOperation", None, counts_of_series, series)
        for counts in ((0,) * 61, (1001,), (-1001,), (1, True), (None,), [1], (LONGER,), "1", None, ((1, 1),), {}):
            self.fails("InvalidOperation", None, series_of_counts, counts)


class CountsTest(Case):
    def test_products_that_are_0(self):
        # [15.3]
        for degrees in ((), (2,), (3,), (2, 2), (3, 2), (2, 3), (3, 3, 3), (4, 2, 4), (2, 4, 5, 6), (6, 7), (3, 4, 3), (7, 7), (8,), (2, 20)):
            algebra = Algebra(tuple(sorted(degrees)), {})
            for most in range(2, 7):
                counts = free_counts(degrees, most)
                if sum(counts) <= 24:
                    self.same(counts, letter_counts(algebra, most))
                    self.same(loop_series(least_tower(algebra, most)[0].letters, most - 1), self.free_series(degrees, most - 1))
        self.same(free_counts((3, 3), 7), letter_counts(Algebra((3, 3), {}), 7))
        for degrees in ((2, 2), (5, 3, 3, 9), (2,) * 12, (40, 2), (39, 40)):
            for most in (0, 1, 2, 3, 11):
                self.same(free_counts(degrees, most), slow_counts(self.free_series(degrees, max(most - 1, 0))) if len(degrees) < 12
                          else counts_of_series(self.free_series(degrees, max(most - 1, 0))))

    def free_series(self, degrees, most):
        return tuple(inverse([int(at == 0) - [degree - 1 for degree in degrees].count(at) for at in range(most + 1)]))

    def test_edges_of_products_that_are_0(self):
        self.same([free_counts((), 0), free_counts((2, 3), 0), free_counts((2,), 1), free_counts((2,), 2), free_counts((), 60)],
                  [(), (), (), (1,), (0,) * 59])
        long = free_counts((2,) * 12, 60)
        self.same((len(long), long[:3]), (59, (12, 78, 572)))
        self.same(free_counts((40,) * 12, 60), (0,) * 38 + (12,) + (0,) * 20)
        self.same(free_counts((40, 2), 60), free_counts((2, 40), 60))
        self.same(free_counts((2, 40), 60)[:41], (1, 1) + (0,) * 36 + (1, 1, 1))

    def test_units_of_one_degree(self):
        # [15.4]
        for many, degree in itertools.product(range(1, 6), range(2, 8)):
            for most in (2, 9, 17):
                self.same(free_counts((degree,) * many, most), told_counts(many, degree, most))
        self.same(free_counts((2,) * 12, 60), told_counts(12, 2, 60))
        self.same(free_counts((3,) * 12, 60), told_counts(12, 3, 60))

    def test_paired(self):
        # [15.5]
        for many, degree in itertools.product(range(2, 13), range(2, 41)):
            if many % 2 and degree % 2:
                self.fails("InvalidOperation", None, paired_counts, many, degree, 20)
                continue
            for most in (0, 1, 2, 9, 60):
                parts = {degree - 1: -many, 2 * degree - 2: 1, 0: 1}
                series = inverse([parts.get(at, 0) for at in range(max(most, 1))])
                counts = paired_counts(many, degree, most)
                self.same(len(counts), max(most - 1, 0))
                if all(abs(entry) < LONGER for entry in series):
                    self.same(counts, counts_of_series(tuple(series)))
                if most <= 9 and many < 4:
                    self.same(counts, slow_counts(series))

    def test_paired_as_least_towers(self):
        # [15.5]: they do not hang on the table
        for rows in (((1, 0), (0, 1)), ((0, 1), (1, 0)), ((2, 3), (3, -5)), ((1, 0, 0), (0, 1, 0), (0, 0, 1)), ((0, 1, 0), (1, 0, 0), (0, 0, -7))):
            for degree in (2, 4):
                size = len(rows)
                products = {(i, j): {size: rows[i][j]} for i in range(size) for j in range(i, size)}
                algebra = Algebra((degree,) * size + (2 * degree,), products)
                for most in range(2, 8):
                    counts = paired_counts(size, degree, most)
                    if sum(counts) <= 24:
                        self.same(letter_counts(algebra, most), counts)
        odd = Algebra((3, 3, 6), {(0, 1): {2: -4}})
        self.same(letter_counts(odd, 7), paired_counts(2, 3, 7))
        four = Algebra((3, 3, 3, 3, 6), {(0, 1): {4: 1}, (2, 3): {4: 2}})
        self.same(letter_counts(four, 6), paired_counts(4, 3, 6))

    def test_errors(self):
        for value in any_values():
            if not (isinstance(value, tuple) and value in ((), (2, 4))):
                self.fails("InvalidOperation", None, free_counts, value, -1)
        for degrees in ((2,) * 13, (1,), (41,), (2, 1), (True, 2), (LONGER,), [2], (2, None)):
            self.fails("InvalidOperation", None, free_counts, degrees, None)
        for most in WRONG:
            self.fails("InvalidNumber", most, free_counts, (2, 3), most)
            self.fails("InvalidNumber", most, paired_counts, 3, 3, most)
        for value in WRONG + (0, 1, 13):
            self.fails("InvalidNumber", value, paired_counts, value, -1, -1)
        for value in WRONG + (0, 1, 41):
            self.fails("InvalidNumber", value, paired_counts, 3, value, -1)
        self.fails("InvalidOperation", None, paired_counts, 3, 39, 0)
        self.same([paired_counts(12, 2, 2), paired_counts(2, 40, 40)[-1], paired_counts(2, 39, 39)[-1]], [(12,), 2, 2])

    def test_what_is_not_true(self):
        # [15.6]
        self.same(counts_of_series((1, 0, 1, 0, 0)), (0, 1, 0, -1))
        self.assertGreater(min((1, 0, 1, 0, 0)), -1)
        one = Algebra((2, 4), {(0, 0): {1: 1}})
        formula = counts_of_series(tuple(inverse([1, -1, 1, 0, 0, 0, 0])))
        self.assertNotEqual(formula, letter_counts(one, 7))
        self.assertLess(free_counts((2, 2), 4)[0], free_counts((2, 2, 2), 4)[0])
        self.assertFalse(all(a > b for a, b in zip(free_counts((2, 3), 9), free_counts((2,), 9))))


if __name__ == "__main__":
    unittest.main()
