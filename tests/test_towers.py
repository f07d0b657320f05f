"""Stage 4, towers: [4.1] to [4.7], with [0.10] and [0.12]."""

import itertools
import unittest

from stepletters.towers import towers
from stepletters.towers.towers import (Tower, beside, cut_tower, plain_tower, quadratic_tower, tower_fault,
                                       with_letter)
from stepletters.words.sums import Sum
from support import HUGE, LONGER, SIXTY, Case, any_values, as_fractions, slow_step, slow_words

HALF = Tower((3, 3, 5), ({}, {}, {(1, 1, 0): 1}))
BENT_LETTERS = (2, 2, 3, 3, 4)
BENT_STEPS = ({}, {}, {(2, 0, 0, 0, 0): 1}, {(1, 1, 0, 0, 0): 1}, {(0, 1, 1, 0, 0): 1, (1, 0, 0, 1, 0): -1})
BENT = Tower(BENT_LETTERS, BENT_STEPS)
KNOT = Tower((1, 1, 1), ({}, {}, {(1, 1, 0): (2, 3)}))
NIL = Tower((1, 1, 1, 1, 2), ({}, {}, {(1, 1, 0, 0, 0): 1}, {(1, 0, 1, 0, 0): -2}, {(1, 1, 0, 1, 0): 1}))
MIXED = Tower((2, 3, 3, 3, 5), ({}, {(2, 0, 0, 0, 0): 1}, {}, {}, {(0, 0, 1, 1, 0): 1, (3, 0, 0, 0, 0): -1}))
EMPTY = Tower((), ())
ALL = [HALF, BENT, KNOT, NIL, MIXED, EMPTY]
NOT_STEPS = [None, True, 0, "ab", [{}, {}], {}, (), ({},), ({}, {}, {}), ({}, None), ({}, [((2, 0), 1)]),
             ({}, Sum((2, 3), {(2, 0): 1})), ({}, {(2,): 1}), ({}, {(2, 0): True}), ({}, {(2, 0): (2, 4)}),
             ({}, {(2, 0): LONGER}), ({}, {(2, True): 1}), ({}, {(0, 2): 1}), ({}, {(201, 0): 1}), ({}, {"a": 1}),
             ({}, {(-1, 0): 1}), ({(2, 0): None}, {}), ({}, ())]


def terms_of(tower):
    """The steps of a tower as dicts."""
    return tuple(step.terms for step in tower.steps)


class MakingTest(Case):
    def test_properties(self):
        self.same((BENT.letters, BENT.size, len(BENT)), (BENT_LETTERS, 5, 5))
        self.assertIs(type(BENT.steps), tuple)
        for step, terms in zip(BENT.steps, BENT_STEPS):
            self.assertEqual(step, Sum(BENT_LETTERS, terms))
        self.same((EMPTY.letters, EMPTY.steps, EMPTY.size, len(EMPTY), EMPTY.is_plain), ((), (), 0, 0, True))
        self.same(Tower((2,), ({(2,): 0},)).steps[0].terms, {})

    def test_24_letters_and_one_more(self):
        most = Tower((1,) * 24, ({},) * 24)
        self.assertEqual(most.size, 24)
        self.fails("InvalidLetters", None, Tower, (1,) * 25, ({},) * 25)
        self.fails("TooMany", 24, with_letter, most, 3, {})
        self.fails("TooMany", 24, beside, most, KNOT)
        self.assertEqual(beside(most, EMPTY), most)
        self.assertEqual(beside(cut_tower(most, 21), KNOT).size, 24)
        self.assertEqual(with_letter(cut_tower(most, 23), 40, {}).letters, (1,) * 23 + (40,))

    def test_wrong_arguments(self):
        for letters in (None, [2], (0,), (True,), (41,), "ab"):
            self.fails("InvalidLetters", None, Tower, letters, None)
            self.fails("InvalidLetters", None, tower_fault, letters, None)
        for steps in NOT_STEPS:
            self.fails("InvalidTower", None, Tower, (2, 3), steps)
            self.fails("InvalidTower", None, tower_fault, (2, 3), steps)

    def test_steps_with_a_fault(self):
        for letters, steps in [((2, 2), ({}, {(1, 0): 1})), ((2, 3), ({(0, 1): 1}, {})), ((3, 2), ({}, {(1, 0): 1})),
                               ((2, 3, 4), ({}, {(2, 0, 0): 1}, {(1, 1, 0): 1}))]:
            self.fails("InvalidTower", None, Tower, letters, steps)

    def test_no_state_is_shared(self):
        step = {(2, 0): 1}
        made = Tower((2, 3), ({}, step))
        step.clear()
        made.steps[1].terms.clear()
        self.assertEqual(made, Tower((2, 3), ({}, {(2, 0): 1})))
        for tower in ALL:
            kept = terms_of(tower)
            beside(tower, HALF), plain_tower(tower), quadratic_tower(tower), cut_tower(tower, 0)
            with_letter(tower, 2, {})
            self.same(terms_of(tower), kept)

    def test_equality_texts_and_other_signs(self):
        self.assertEqual(Tower(BENT_LETTERS, BENT_STEPS), BENT)
        self.assertIs(BENT != Tower(BENT_LETTERS, BENT_STEPS), False)
        for one, other in itertools.combinations(ALL, 2):
            self.assertIs(one == other, False)
            self.assertIs(one != other, True)
        self.assertNotEqual(Tower((1, 1, 1), ({}, {}, {(1, 1, 0): 1})), KNOT)
        for value in any_values():
            self.assertIs(BENT == value, False)
        self.same(str(HALF), "tower of 3 letters to the degree 5")
        self.same(str(EMPTY), "tower of 0 letters")
        self.same(str(Tower((7, 2), ({}, {}))), "tower of 2 letters to the degree 7")
        for call in (lambda: list(BENT), lambda: 1 in BENT, lambda: BENT[0], lambda: BENT + BENT, lambda: -BENT,
                     lambda: BENT * 2, lambda: BENT < HALF, lambda: iter(EMPTY)):
            with self.assertRaises(TypeError):
                call()


class StepsTest(Case):
    def test_steps_of_words(self):
        for tower in ALL:
            for degree in range(12 if tower is not NIL else 8):
                for word in slow_words(tower.letters, degree):
                    found = tower.step(Sum(tower.letters, {word: (2, 3)}))
                    self.assertEqual(found.letters, tower.letters)
                    self.assertEqual(as_fractions(found), slow_step(tower.letters, terms_of(tower), {word: (2, 3)}))

    def test_told_signs(self):
        found = BENT.step(Sum(BENT.letters, {(0, 0, 0, 0, 2): 1}))
        self.same(found.terms, {(0, 1, 1, 0, 1): (2, 1), (1, 0, 0, 1, 1): (-2, 1)})
        found = BENT.step(Sum(BENT.letters, {(0, 0, 1, 1, 0): 1}))
        self.same(found.terms, {(1, 1, 1, 0, 0): (-1, 1), (2, 0, 0, 1, 0): (1, 1)})

    def test_the_rule_of_products_and_twice(self):
        for tower in (HALF, BENT, KNOT, MIXED):
            some = [Sum(tower.letters, {word: 1 + at for at, word in enumerate(slow_words(tower.letters, degree))})
                    for degree in range(7)]
            for u, v in itertools.product(some, some):
                sign = -1 if u.degree is not None and u.degree % 2 else 1
                self.assertEqual(tower.step(u * v), tower.step(u) * v + u * tower.step(v) * sign)
            for u in some:
                self.assertEqual(len(tower.step(tower.step(u))), 0)
                self.assertIs(tower.is_closed(tower.step(u)), True)
                if len(tower.step(u)) > 0:
                    self.assertIs(tower.is_closed(u), False)
                    self.assertEqual(tower.step(u).degree, u.degree + 1)
            mixed = some[2] + some[3] + some[6]
            self.assertEqual(tower.step(mixed), tower.step(some[2]) + tower.step(some[3]) + tower.step(some[6]))
            self.assertEqual(len(tower.step(Sum.one(tower.letters))), 0)
            self.assertIs(tower.is_closed(Sum(tower.letters, {})), True)

    def test_long_sums(self):
        long = Sum(HALF.letters, {(0, 0, 1): SIXTY}) * SIXTY
        self.same(HALF.step(long).terms, {(1, 1, 0): (SIXTY * SIXTY, 1)})
        tower = Tower((2, 3), ({}, {(2, 0): (SIXTY, 2)}))
        self.same(tower.step(Sum((2, 3), {(150, 1): SIXTY})).terms, {(152, 0): (SIXTY * SIXTY, 2)})

    def test_errors(self):
        for value in any_values() + [{(1, 0, 0): 1}, Sum((3, 3), {}), Sum((3, 5, 3), {})]:
            self.fails("InvalidSum", None, HALF.step, value)
            self.fails("InvalidSum", None, HALF.is_closed, value)

    def test_letter_sums(self):
        for tower in ALL:
            for index in range(tower.size):
                self.assertEqual(tower.letter_sum(index), Sum.letter(tower.letters, index))
                self.assertEqual(tower.step(tower.letter_sum(index)), tower.steps[index])
            for value in (None, True, -1, tower.size, LONGER, "0", (0,)):
                self.fails("InvalidNumber", value, tower.letter_sum, value)


class FaultsTest(Case):
    def test_no_fault(self):
        for tower in ALL:
            self.assertIsNone(tower_fault(tower.letters, terms_of(tower)))
        # words with the number 0 are left out ahead of everything
        self.assertIsNone(tower_fault((2, 3), ({}, {(1, 0): 0, (0, 1): (0, 1)})))

    def test_degree_ahead_and_length(self):
        self.same(tower_fault((2, 2), ({}, {(1, 0): 1})), ("degree", 1))
        self.same(tower_fault((2, 3), ({}, {(2, 0): 1, (3, 0): 1})), ("degree", 1))
        self.same(tower_fault((2, 3), ({}, {(0, 0): 1})), ("degree", 1))
        self.same(tower_fault((2, 3), ({(0, 1): 1}, {})), ("ahead", 0))
        self.same(tower_fault((2, 1, 3), ({}, {(0, 0, 0): 0}, {(0, 1, 1): 1})), ("ahead", 2))
        self.same(tower_fault((1, 2), ({(0, 1): 1}, {})), ("ahead", 0))
        self.same(tower_fault((3, 2), ({}, {(1, 0): 1})), ("length", 1))

    def test_the_first_one_of_a_letter(self):
        letters = (3, 1, 2)
        # words of the wrong degree, of a letter not ahead, of one letter alone
        late, short, wrong = (0, 1, 1), (1, 0, 0), (0, 0, 0)
        self.same(tower_fault(letters, ({}, {}, {short: 1})), ("length", 2))
        self.same(tower_fault(letters, ({}, {}, {short: 1, late: 1})), ("ahead", 2))
        self.same(tower_fault(letters, ({}, {}, {short: 1, late: 1, wrong: 1})), ("degree", 2))

    def test_the_first_letter(self):
        letters = (3, 2, 3, 2)
        short, late = {(1, 0, 0, 0): 1}, {(0, 0, 1, 0): 1}
        self.same(tower_fault(letters, ({}, short, {(0, 0, 0, 0): 1}, short)), ("length", 1))
        self.same(tower_fault(letters, ({}, late, {(0, 0, 0, 0): 1}, short)), ("ahead", 1))
        self.same(tower_fault(letters, ({}, {}, {(1, 0, 0, 0): 1}, short)), ("degree", 2))

    def test_twice_comes_behind_all_others(self):
        letters, steps = (2, 3, 4, 3), ({}, {(2, 0, 0, 0): 1}, {(1, 1, 0, 0): 1}, {(1, 0, 0, 0): 1})
        self.same(tower_fault(letters, steps), ("degree", 3))
        self.same(tower_fault(letters, steps[:3] + ({},)), ("twice", 2))
        bent = list(BENT_STEPS)
        bent[4] = {(0, 1, 1, 0, 0): 1, (1, 0, 0, 1, 0): 1}
        self.same(tower_fault(BENT_LETTERS, tuple(bent)), ("twice", 4))
        letters, steps = (1, 1, 1, 1, 1), ({}, {}, {(1, 1, 0, 0, 0): 1}, {}, {(0, 0, 1, 1, 0): 1})
        self.same(tower_fault(letters, steps), ("twice", 4))


class ChangesTest(Case):
    def test_beside(self):
        for one, other in itertools.product(ALL, ALL):
            both = beside(one, other)
            self.assertEqual(both.letters, one.letters + other.letters)
            self.assertIsNone(tower_fault(both.letters, terms_of(both)))
            for index, step in enumerate(one.steps):
                wanted = {word + (0,) * other.size: number for word, number in step.terms.items()}
                self.same(both.steps[index].terms, wanted)
            for index, step in enumerate(other.steps):
                wanted = {(0,) * one.size + word: number for word, number in step.terms.items()}
                self.same(both.steps[one.size + index].terms, wanted)
            self.assertEqual(cut_tower(both, one.size), one)
        for value in any_values():
            if not isinstance(value, Tower):
                self.fails("InvalidTower", None, beside, value, None)
                self.fails("InvalidTower", None, beside, value, HALF)
                self.fails("InvalidTower", None, beside, HALF, value)
                self.fails("InvalidTower", None, beside, Tower((1,) * 24, ({},) * 24), value)

    def test_cutting(self):
        for tower in ALL:
            for many in range(tower.size + 1):
                made = cut_tower(tower, many)
                self.assertEqual(made.letters, tower.letters[:many])
                self.assertEqual(terms_of(made), tuple({word[:many]: number for word, number in step}
                                                       for step in tower.steps[:many]))
                self.assertEqual(made, Tower(made.letters, terms_of(made)))
            for value in (None, True, False, -1, tower.size + 1, LONGER, "1", (1,)):
                self.fails("InvalidNumber", value, cut_tower, tower, value)
        self.fails("InvalidTower", None, cut_tower, None, None)

    def test_letter_by_letter(self):
        for tower in ALL:
            made = EMPTY
            for index, step in enumerate(tower.steps):
                terms = {word[:index]: number for word, number in step}
                made = with_letter(made, tower.letters[index], terms)
            self.assertEqual(made, tower)

    def test_with_letter_errors(self):
        full = Tower((1,) * 24, ({},) * 24)
        self.fails("InvalidTower", None, with_letter, None, None, None)
        for value in (None, True, 0, 41, -1, LONGER, "3", (3,)):
            self.fails("InvalidNumber", value, with_letter, HALF, value, None)
            self.fails("InvalidNumber", value, with_letter, full, value, {})
        for value in [None, (), [], "a", {(1, 0): 1}, {(1, 1, 0, 0): 1}, {(2, 0, 0): 1}, {(1, 1, 0): True},
                      {(1, 1, 0): (2, 2)}, {(1, 1, 0): HUGE}, {(1, True, 0): 1}, Sum((3, 3, 5), {})]:
            self.fails("InvalidSum", None, with_letter, HALF, 5, value)
        self.fails("InvalidSum", None, with_letter, full, 5, None)
        self.fails("TooMany", 24, with_letter, full, 5, {(0,) * 24: 1})
        # faults of the new letter: degree, length, twice
        self.fails("InvalidOperation", None, with_letter, HALF, 5, {(1, 0, 1): 1})
        self.fails("InvalidOperation", None, with_letter, HALF, 4, {(0, 0, 1): 1})
        self.fails("InvalidOperation", None, with_letter, BENT, 4, {(0, 1, 1, 0, 0): 1})
        self.assertEqual(with_letter(HALF, 7, {(1, 0, 1): 1, (0, 0, 0): 0}).steps[3].terms, {(1, 0, 1, 0): (1, 1)})

    def test_plain_towers(self):
        for tower in ALL:
            made = plain_tower(tower)
            self.assertEqual(made.letters, tower.letters)
            for degree, step, plain in zip(tower.letters, tower.steps, made.steps):
                wanted = {}
                if degree % 2:
                    wanted = {word: number for word, number in step.terms.items()
                              if not any(e for d, e in zip(tower.letters, word) if d % 2)}
                self.same(plain.terms, wanted)
            self.assertEqual(plain_tower(made), made)
            self.assertIs(made.is_plain, True)
            self.assertIs(tower.is_plain, made == tower)
            self.assertEqual(Tower(made.letters, terms_of(made)), made)
        self.assertEqual([tower.is_plain for tower in ALL], [False, False, False, False, False, True])
        self.assertIs(Tower((2, 3), ({}, {(2, 0): 1})).is_plain, True)

    def test_quadratic_towers(self):
        for tower in ALL + [Tower((2, 5, 3), ({}, {(3, 0, 0): 1}, {(2, 0, 0): 5}))]:
            made = quadratic_tower(tower)
            self.assertEqual(made.letters, tower.letters)
            for step, part in zip(tower.steps, made.steps):
                self.same(part.terms, {word: number for word, number in step.terms.items() if sum(word) == 2})
            self.assertEqual(Tower(made.letters, terms_of(made)), made)
        for value in any_values():
            if not isinstance(value, Tower):
                self.fails("InvalidTower", None, plain_tower, value)
                self.fails("InvalidTower", None, quadratic_tower, value)

    def test_untrue_statements(self):
        # [4.7]
        one = Tower((3, 3, 2, 5, 8), ({}, {}, {}, {(1, 1, 0, 0, 0): 1}, {}))
        other = with_letter(cut_tower(one, 4), 8, {(1, 1, 0, 0): 0, (1, 0, 3, 0): 1})
        self.assertEqual(quadratic_tower(one), quadratic_tower(other))
        self.assertEqual(plain_tower(one), plain_tower(other))
        self.assertNotEqual(one, other)
        self.same(tower_fault((3, 2), ({(0, 2): 1}, {})), ("ahead", 0))
        self.assertIs(HALF.is_closed(Sum(HALF.letters, {(1, 0, 1): 1})), True)


if __name__ == "__main__":
    unittest.main()
