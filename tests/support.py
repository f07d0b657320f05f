"""What several test files share: wrong values, errors with what they keep, slow sure ways."""

import itertools
import unittest
from fractions import Fraction

from stepletters import errors
from stepletters.algebras.algebras import Algebra
from stepletters.desk.desk import Desk
from stepletters.towers.towers import Tower
from stepletters.words.sums import Sum

SIXTY = 10 ** 60 - 1
LONGER = 10 ** 60
HUGE = 10 ** 100 - 1

KEPT = {"ParseError": "spot", "InvalidNumber": "given", "UnknownName": "name", "TooMany": "limit",
        "Refused": "reason", "NothingToUndo": "times"}


def deep(depth):
    """A tuple in a tuple, so deep."""
    return () if depth == 0 else (deep(depth - 1),)


def any_values():
    """Values of every kind that can be passed by mistake."""
    ball = Tower((2, 3), ({}, {(2, 0): 1}))
    return [
        None, True, False, 0, 1, -1, 2, 7, SIXTY, -SIXTY, LONGER, -LONGER, HUGE, "", "a", "word\n", "test", (), (1,),
        (True,), (None,), (1, 2), (2, 4), (1, 0), (1, -1), (True, 1), (1, True), (0, 1), (LONGER, 1), (1, LONGER),
        (1, 2, 3), ("a", "b"), ((1, 2), (3, 4)), ((1,), (1, 2)), deep(8), [], [1], [1, 2], [(1, 2)], [[1], [2]],
        {}, {1: 2}, {"a": 1}, {(1,): 1}, {(1, 0): 1}, {(0, 0): (1, 2)}, {(): 1}, {None: 1}, {(2, 0): None},
        ("test", ()), ("step", None), ("numbers", ()), ("test", (1,)), ["test", (1,)], ("test", [1]), ("test", 1, 2),
        Sum((2, 3), {}), Sum((2, 3), {(1, 0): 1}), Sum((), {(): 1}), ball, Tower((), ()),
        (Sum((2, 3), {}),), (ball,), errors.InvalidNumber(3), Algebra((2,), {}), Algebra((2, 4), {(0, 0): {1: 1}}), Desk(),
        (Algebra((), {}),), ("equal", "f", "f"), "letters 2", ({},), ({}, {}), {(0, 0): {0: 1}},
    ]


class Case(unittest.TestCase):
    """A test case that compares errors with what they keep."""

    maxDiff = None

    def fails(self, name, kept, call, *given, **keywords):
        """The call raises just this error, with what it keeps, if it keeps anything."""
        try:
            result = call(*given, **keywords)
        except Exception as error:
            self.assertEqual(type(error).__name__, name, f"{given!r:.200}")
            self.assertIs(type(error), getattr(errors, name))
            if name in KEPT:
                told = getattr(error, KEPT[name])
                self.assertEqual(told, kept)
                self.assertEqual(type(told), type(kept))
        else:
            self.fail(f"{name} was not raised for {given!r:.200}, but {result!r:.200} returned")

    def same(self, found, wanted):
        """Equal values of equal kinds all through, so that True is not 1."""
        self.assertEqual(found, wanted)
        self.assertEqual(repr(found), repr(wanted))


def fraction(number):
    """A number of the package as a fraction of Python's own."""
    return Fraction(*number) if isinstance(number, tuple) else Fraction(number)


def ratio(value):
    """A fraction as a ratio of the package."""
    return (value.numerator, value.denominator)


def reduced_rows(rows):
    """The reduced echelon of rows of fractions, the plain way."""
    rows = [[Fraction(number) for number in row] for row in rows]
    done = []
    width = len(rows[0]) if rows else 0
    for column in range(width):
        lead = next((row for row in rows if row[column] != 0), None)
        if lead is None:
            continue
        rows = [row for row in rows if row is not lead]
        lead = [number / lead[column] for number in lead]
        rows = [[a - row[column] * b for a, b in zip(row, lead)] for row in rows]
        done = [[a - row[column] * b for a, b in zip(row, lead)] for row in done]
        done.append(lead)
    return done


def slow_rank(rows):
    """The rank of rows of fractions."""
    return len(reduced_rows(rows))


def words_up_to(letters, most):
    """All words of degrees up to `most`, found by trying."""
    sides = [range(2) if degree % 2 else range(most // degree + 1) for degree in letters]
    found = []
    for word in itertools.product(*sides):
        if sum(d * e for d, e in zip(letters, word)) <= most:
            found.append(word)
    return found


def slow_words(letters, degree):
    """The ascending list of all words of a degree, found by trying."""
    if degree < 0:
        return []
    return sorted(word for word in words_up_to(letters, degree) if sum(map(int.__mul__, letters, word)) == degree)


def spelled(word):
    """The letters of a word, one behind the other."""
    return [index for index, exponent in enumerate(word) for _ in range(exponent)]


def slow_sorted(letters, indices):
    """Letters brought into order by changing places of neighbours: sign and word, or None."""
    row, sign = list(indices), 1
    for _ in row:
        for at in range(len(row) - 1):
            if row[at] > row[at + 1]:
                if letters[row[at]] % 2 and letters[row[at + 1]] % 2:
                    sign = -sign
                row[at], row[at + 1] = row[at + 1], row[at]
    if any(a == b and letters[a] % 2 for a, b in zip(row, row[1:])):
        return None
    return sign, tuple(row.count(index) for index in range(len(letters)))


def slow_step(letters, steps, terms):
    """The step of a sum letter by letter, by the rule of products; dicts with fractions."""
    found = {}
    for word, number in terms.items():
        row = spelled(word)
        for at, index in enumerate(row):
            ahead = sum(letters[former] for former in row[:at])
            for inner, factor in steps[index].items():
                made = slow_sorted(letters, row[:at] + spelled(inner) + row[at + 1:])
                if made is not None:
                    sign = made[0] * (-1) ** ahead
                    more = fraction(number) * fraction(factor) * sign
                    found[made[1]] = found.get(made[1], Fraction(0)) + more
    return {word: number for word, number in found.items() if number != 0}


def as_fractions(a_sum):
    """The terms of a sum as a dict with fractions."""
    return {word: fraction(number) for word, number in a_sum.terms.items()}


def slow_step_rows(tower, degree):
    """The steps of all words of a degree as rows of fractions."""
    steps = [step.terms for step in tower.steps]
    targets = slow_words(tower.letters, degree + 1)
    found = []
    for word in slow_words(tower.letters, degree):
        step = slow_step(tower.letters, steps, {word: 1})
        found.append([step.get(target, Fraction(0)) for target in targets])
    return found


def slow_class_number(tower, degree):
    """The class number of a degree by ranks."""
    words = len(slow_words(tower.letters, degree))
    return words - slow_rank(slow_step_rows(tower, degree)) - slow_rank(slow_step_rows(tower, degree - 1))


def slow_rank_of_steps(tower, words):
    """How many of the steps of some words are independent."""
    steps = [step.terms for step in tower.steps]
    found = [slow_step(tower.letters, steps, {word: 1}) for word in words]
    targets = sorted({word for step in found for word in step})
    return slow_rank([[step.get(word, Fraction(0)) for word in targets] for step in found])


def slow_block_number(tower, degree, key, value, before):
    """The classes told by the words of a degree with key(word) == value, steps being of `before`."""
    words = [word for word in slow_words(tower.letters, degree) if key(word) == value]
    others = [word for word in slow_words(tower.letters, degree - 1) if key(word) == before]
    return len(words) - slow_rank_of_steps(tower, words) - slow_rank_of_steps(tower, others)


def slow_row(tower, a_sum, degree):
    """The numbers of a sum at all words of a degree."""
    numbers = as_fractions(a_sum)
    return [numbers.get(word, Fraction(0)) for word in slow_words(tower.letters, degree)]


def slow_is_step(tower, a_sum):
    """Whether a level sum other than 0 is a step, by ranks."""
    rows = slow_step_rows(tower, a_sum.degree - 1)
    return slow_rank(rows + [slow_row(tower, a_sum, a_sum.degree)]) == slow_rank(rows)


def slow_even_words(letters, degree):
    """The ascending list of all words of a degree without odd letters."""
    evens = tuple(letter for letter in letters if letter % 2 == 0)
    found = []
    for word in slow_words(evens, degree):
        rest = list(word)
        found.append(tuple(0 if letter % 2 else rest.pop(0) for letter in letters))
    return found


def slow_even_rank(tower, degree):
    """The number of even words of a degree, and how many sums of them the plain tower's steps make."""
    letters = tower.letters
    odds = [index for index, letter in enumerate(letters) if letter % 2]
    steps = [{word: number for word, number in step.terms.items() if not any(word[index] for index in odds)}
             for step in tower.steps]
    steps = [step if letter % 2 else {} for letter, step in zip(letters, steps)]
    evens = slow_even_words(letters, degree)
    rows = []
    for index in odds:
        for word in slow_even_words(letters, degree - 1 - letters[index]):
            step = slow_step(letters, steps, {word[:index] + (1,) + word[index + 1:]: 1})
            rows.append([step.get(other, Fraction(0)) for other in evens])
    return len(evens), rank_by_prime(rows)


def rank_by_prime(rows, prime=2 ** 61 - 1):
    """The rank of rows of fractions up to multiples of a prime: the rank itself, but for rare bad luck."""
    rows = [[number.numerator * pow(number.denominator, -1, prime) % prime for number in map(Fraction, row)] for row in rows]
    found = 0
    for column in range(len(rows[0]) if rows else 0):
        lead = next((row for row in rows if row[column]), None)
        if lead is None:
            continue
        found += 1
        inverse = pow(lead[column], -1, prime)
        lead = [number * inverse % prime for number in lead]
        rest = []
        for row in rows:
            factor = row[column]
            rest.append([(a - factor * b) % prime for a, b in zip(row, lead)] if factor else row)
        rows = [row for row in rest if any(row)]
    return found


def slow_series(over, under, most):
    """The product of 1 - t ** n over the integers in `over`, divided by that of those in `under`."""
    row = [1] + [0] * most
    for n in over:
        row = [row[at] - (row[at - n] if at >= n else 0) for at in range(most + 1)]
    for n in under:
        for at in range(n, most + 1):
            row[at] += row[at - n]
    return row


BALL = Tower((2, 3), ({}, {(2, 0): 1}))
PLANE = Tower((2, 5), ({}, {(3, 0): 2}))
KNOT = Tower((1, 1, 1), ({}, {}, {(1, 1, 0): 1}))
HALF = Tower((3, 3, 5), ({}, {}, {(1, 1, 0): 1}))
BENT = Tower((2, 2, 3, 3, 4), ({}, {}, {(2, 0, 0, 0, 0): 1}, {(1, 1, 0, 0, 0): 1},
                               {(0, 1, 1, 0, 0): 1, (1, 0, 0, 1, 0): -1}))
TWIST = Tower((2, 3, 3, 3, 5), ({}, {(2, 0, 0, 0, 0): (2, 3)}, {}, {}, {(0, 0, 1, 1, 0): 1, (3, 0, 0, 0, 0): -1}))
OPEN = Tower((2, 2, 3), ({}, {}, {(1, 1, 0): 1, (0, 2, 0): (-1, 5)}))
LONG = Tower((2, 3, 3), ({}, {(2, 0, 0): (SIXTY, 2)}, {(2, 0, 0): (1, SIXTY)}))
BOTH = Tower((2, 2, 3, 3), ({}, {}, {(2, 0, 0, 0): 1}, {(0, 2, 0, 0): 1}))
CROSS = Tower((3, 2, 5, 4, 7), ({}, {}, {(0, 3, 0, 0, 0): 1}, {(1, 1, 0, 0, 0): 1},
                                {(0, 4, 0, 0, 0): 2, (0, 2, 0, 1, 0): 1, (1, 0, 1, 0, 0): 1}))
# an even letter with a step, and classes that end
KNIT = Tower((3, 3, 5, 10, 15, 19), ({}, {}, {}, {(1, 1, 1, 0, 0, 0): 1}, {(1, 1, 0, 1, 0, 0): 1},
                                     {(0, 0, 0, 2, 0, 0): 1, (0, 0, 1, 0, 1, 0): 2}))
EMPTY = Tower((), ())
# exactly 150 words at 22, 151 at 38 in the second one; none at odd degrees
FULL = Tower((2, 2, 2, 6), ({},) * 4)
OVER = Tower((2, 2, 6, 10), ({},) * 4)
# 252 words at 5, 1 at 10, none above
ROW = Tower((1,) * 10, ({},) * 10)
SAMPLES = [BALL, PLANE, KNOT, HALF, BENT, TWIST, OPEN, LONG, BOTH, EMPTY]
