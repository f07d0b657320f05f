"""Stage 8, towers whose classes end: [8.1] to [8.7], with [0.15]."""

import itertools
import unittest
from fractions import Fraction

from stepletters.base.exact import is_quotient
from stepletters.built.built import flags, projective, spaces, special_group, sphere
from stepletters.classes.classes import class_basis, class_count, class_paper, class_row
from stepletters.plain import ends
from stepletters.plain.ends import (does_end, end_paper, euler_number, is_end_paper, top_class, top_degree, total_count)
from stepletters.towers.towers import Tower, beside, plain_tower
from stepletters.words.sums import Sum, power
from stepletters.words.words import even_letters, word_count
from support import (BALL, BENT, BOTH, CROSS, EMPTY, FULL, HALF, HUGE, KNIT, KNOT, LONG, OPEN, PLANE, SIXTY, TWIST,
                     Case, any_values, fraction, slow_even_rank, slow_is_step, slow_words)

APART = Tower((4, 4, 7), ({}, {}, {(1, 1, 0): 1}))
# N is 5; nothing is a step at 6
WIDE = Tower((2, 2, 7), ({}, {}, {(2, 2, 0): 3}))
# N is 26; 120 even words at 28
EDGE = Tower((2, 2, 2, 9, 9, 11), ({}, {}, {}, {(5, 0, 0, 0, 0, 0): 1}, {(0, 5, 0, 0, 0, 0): 1},
                                   {(0, 0, 6, 0, 0, 0): 1, (1, 2, 3, 0, 0, 0): (7, 2)}))
# N is 28; 136 even words at 30
PAST = Tower((2, 2, 2, 9, 11, 11), ({}, {}, {}, {(5, 0, 0, 0, 0, 0): 1}, {(0, 6, 0, 0, 0, 0): 1},
                                    {(0, 0, 6, 0, 0, 0): 1}))
MIXED = Tower((2, 5, 2, 3, 3), ({}, {}, {}, {(2, 0, 0, 0, 0): 1, (1, 0, 1, 0, 0): 2}, {(0, 0, 2, 0, 0): (1, 3)}))
# both steps have a letter in common, so powers of the other one are never made
COMMON = Tower((2, 2, 3, 3), ({}, {}, {(2, 0, 0, 0): 1}, {(1, 1, 0, 0): 1}))
ENDING = [BALL, PLANE, HALF, BOTH, TWIST, KNIT, EMPTY, LONG, MIXED, EDGE, sphere(6), flags(3), flags(4), spaces(2, 4),
          spaces(3, 6), special_group(5), projective(4, 2), beside(BALL, TWIST), Tower((39,), ({},))]
ENDLESS = [OPEN, APART, WIDE, BENT, CROSS, COMMON, Tower((2,), ({},)), Tower((2, 5), ({}, {})), FULL, beside(BALL, OPEN),
           beside(Tower((2,), ({},)), special_group(4)), Tower((4, 9), ({}, {})), Tower((2, 3, 40), ({}, {(2, 0, 0): 1}, {}))]
SMALL = [tower for tower in ENDING + ENDLESS if tower.size <= 6 and tower not in (EDGE, FULL)]


def slow_end(tower):
    """Whether all even words are steps of the plain tower at the degrees from N + 1 to N + m, by ranks."""
    bound = sum(letter if letter % 2 else 1 - letter for letter in tower.letters)
    most = max([letter for letter in tower.letters if letter % 2 == 0], default=0)
    if bound < 0:
        return False
    return all(a == b for a, b in (slow_even_rank(tower, degree) for degree in range(bound + 1, bound + most + 1)))


class NumbersTest(Case):
    def test_constants(self):
        self.same(ends.MAX_EVEN, 120)

    def test_top_degrees(self):
        for letters, wanted in [((), 0), ((2,), -1), ((3,), 3), ((40,), -39), ((39,), 39), ((2, 3, 3, 3, 5), 13),
                                ((4, 4, 7), 1), ((40,) * 24, -39 * 24), ((39,) * 24, 39 * 24), ((3, 2, 5, 4), 4)]:
            self.same(top_degree(letters), wanted)

    def test_signed_numbers_by_degrees(self):
        for letters, wanted in [((), (1, 1)), ((3,), (0, 1)), ((4, 5), (3, 2)), ((2, 4, 5, 7), (6, 1)), ((3, 3), (0, 1)),
                                ((2, 3, 5), (0, 1)), ((40, 3), (1, 10)), ((2, 39), (20, 1)), ((5, 4), (3, 2)),
                                ((6, 6, 5, 5), (1, 1))]:
            self.same(euler_number(letters), wanted)
        self.same(euler_number((2,) * 12 + (39,) * 12), (20 ** 12, 1))
        for letters in ((2,), (2, 2, 3), (40,) * 24, (2, 4, 6, 3, 3)):
            self.fails("InvalidOperation", None, euler_number, letters)

    def test_errors(self):
        for call in (top_degree, euler_number):
            for value in [None, 3, True, [2], (0,), (True,), (41,), (2,) * 25, (1, 0), "a", {}, BALL, ((2,),), (HUGE,)]:
                self.fails("InvalidLetters", None, call, value)
            for letters in ((1,), (1, 2), (3, 1, 3), (2, 2, 1), (1,) * 24):
                self.fails("InvalidOperation", None, call, letters)


class EndsTest(Case):
    def test_whether_classes_end(self):
        for tower in ENDING:
            self.assertIs(does_end(tower), True)
            self.assertIs(does_end(plain_tower(tower)), True)
        for tower in ENDLESS:
            self.assertIs(does_end(tower), False)
            self.assertIs(does_end(plain_tower(tower)), False)

    def test_as_ranks_tell(self):
        # [8.2]
        for tower in SMALL:
            self.assertIs(does_end(tower), slow_end(tower))
        numbers = [0, 1, -2, (1, 3)]
        for a, b, c, d in itertools.product(numbers, repeat=4):
            tower = Tower((2, 2, 3, 3), ({}, {}, {(2, 0, 0, 0): a, (1, 1, 0, 0): b}, {(1, 1, 0, 0): c, (0, 2, 0, 0): d}))
            self.assertIs(does_end(tower), slow_end(tower))
            cross = fraction(a) * fraction(d) - fraction(b) * fraction(c)
            self.assertIs(does_end(tower), fraction(a) != 0 and fraction(d) != 0 and cross != 0)

    def test_with_the_classes_of_both_towers(self):
        # [8.1], [8.4], [8.5]
        for tower in ENDING:
            bound = top_degree(tower.letters)
            most = min(bound + 6, 22 if tower is EDGE else 60)
            if any(word_count(tower.letters, degree) > 150 for degree in range(most + 2)):
                continue
            row, plain = class_row(tower, most), class_row(plain_tower(tower), most)
            self.assertTrue(all(a <= b for a, b in zip(row, plain)))
            if most > bound:
                self.same((row[bound], row[bound + 1:]), (1, (0,) * (most - bound)))
                self.same(row[:bound + 1], row[bound::-1])
                odd = sum(letter % 2 for letter in tower.letters)
                self.assertGreaterEqual(odd, tower.size - odd)
                signed = sum(-number if degree % 2 else number for degree, number in enumerate(row))
                self.assertEqual(Fraction(signed), fraction(euler_number(tower.letters)))
                if 2 * odd == tower.size:
                    self.assertEqual(sum(row[1::2]), 0)
                if tower.size > 0:
                    # [8.6]
                    self.assertLessEqual(sum(letter for letter in tower.letters if letter % 2 == 0), bound)
                    self.assertLessEqual(sum(letter for letter in tower.letters if letter % 2), 2 * bound - 1)
        for tower in ENDLESS:
            if tower not in (FULL, CROSS):
                row, plain = class_row(tower, 12), class_row(plain_tower(tower), 12)
                self.assertTrue(all(a <= b for a, b in zip(row, plain)))

    def test_each_class_has_a_partner(self):
        # [8.4]
        for tower in (BALL, PLANE, HALF, BOTH, TWIST, MIXED, flags(3)):
            top = top_degree(tower.letters)
            for degree in range(top + 1):
                for a_sum in class_basis(tower, degree):
                    partners = [a_sum * other for other in class_basis(tower, top - degree)]
                    papers = [class_paper(tower, product)[0] for product in partners if product]
                    self.assertIn("test", papers)

    def test_120_even_words_and_more(self):
        self.same([word_count((2, 2, 2), degree) for degree in (28, 30)], [120, 136])
        self.same([top_degree(tower.letters) for tower in (EDGE, PAST)], [26, 28])
        self.assertIs(does_end(EDGE), True)
        for call in (does_end, end_paper, top_class, total_count):
            self.fails("TooMany", 120, call, PAST)
        none = Tower(EDGE.letters, ({},) * 6)
        self.assertIs(does_end(none), False)
        self.fails("TooMany", 120, does_end, Tower(PAST.letters, ({},) * 6))
        # only the degrees to N + m count, and only even words do
        self.same((top_degree((2, 2, 2, 27)), word_count((2, 2, 2), 26)), (24, 105))
        self.assertIs(does_end(Tower((2, 2, 2, 27), ({},) * 4)), False)
        many = Tower((2, 3) + (3,) * 20, ({}, {(2,) + (0,) * 21: 1}) + ({},) * 20)
        self.assertGreater(word_count(many.letters, 31), 10 ** 4)
        self.assertIs(does_end(many), True)
        # a letter of a high degree: degrees between N + 1 and N + m have too many even words, and N + m has few
        odd = Tower((2, 2, 2, 38, 39), ({},) * 5)
        self.same((top_degree(odd.letters), does_end(odd)), (-1, False))
        tall = Tower((4, 4, 4, 4, 38, 39, 39), ({},) * 7)
        self.same(top_degree(tall.letters), 29)
        self.assertGreater(word_count((4, 4, 4, 4, 38), 32), 120)
        self.fails("TooMany", 120, does_end, tall)
        # at N + 1 alone: N is 29
        first = Tower((2, 2, 2, 9, 9, 11, 3), ({},) * 7)
        self.same((top_degree(first.letters), word_count((2, 2, 2), 30)), (29, 136))
        self.fails("TooMany", 120, does_end, first)
        # with N as 0 they are counted, with N below 0 not
        nought = (2,) * 6 + (20,)
        self.same([top_degree(nought + (odd,)) for odd in (25, 23)], [0, -2])
        self.fails("TooMany", 120, does_end, Tower(nought + (25,), ({},) * 8))
        self.assertIs(does_end(Tower(nought + (23,), ({},) * 8)), False)
        # with N below 0 nothing is counted
        self.assertIs(does_end(Tower((2,) * 24, ({},) * 24)), False)
        self.same(end_paper(Tower((2,) * 24, ({},) * 24)), ("test", 0, (1,)))
        # without even letters neither
        self.assertIs(does_end(Tower((3,) * 24, ({},) * 24)), True)

    def test_errors(self):
        for value in any_values():
            if not isinstance(value, Tower):
                for call in (does_end, end_paper, top_class, total_count):
                    self.fails("InvalidTower", None, call, value)
                self.fails("InvalidTower", None, is_end_paper, value, None)
        crowd = Tower((2, 2, 2, 9, 11, 11, 1), ({},) * 7)
        for tower in (KNOT, Tower((1,), ({},)), Tower((2, 1), ({}, {})), crowd, Tower((3, 2, 1), ({},) * 3)):
            for call in (does_end, end_paper, top_class, total_count):
                self.fails("InvalidOperation", None, call, tower)
            for value in (None, ("powers", ()), ("test", 0, (1,))):
                self.fails("InvalidOperation", None, is_end_paper, tower, value)


class PapersTest(Case):
    def check_paper(self, tower, paper):
        plain, evens = plain_tower(tower), even_letters(tower.letters)
        if paper[0] == "powers":
            word, told = paper
            self.assertEqual((word, len(told)), ("powers", len(evens)))
            for index, a_sum in zip(evens, told):
                (made, number), = plain.step(a_sum)
                self.assertTrue(is_quotient(number) and number[0] != 0)
                self.assertEqual([at for at, exponent in enumerate(made) if exponent > 0], [index])
        else:
            word, degree, told = paper
            self.assertEqual(word, "test")
            self.assertTrue(top_degree(tower.letters) < degree <= 1000 and degree >= 0)
            odds = [index for index, letter in enumerate(tower.letters) if letter % 2]
            words = [word for word in slow_words(tower.letters, degree) if not any(word[index] for index in odds)]
            self.assertEqual(len(words), len(told))
            self.assertTrue(all(type(number) is int for number in told) and any(told))
            for word in slow_words(tower.letters, degree - 1):
                if sum(word[index] for index in odds) == 1:
                    step = plain.step(Sum(tower.letters, {word: 1}))
                    self.assertEqual(sum(n * fraction(step.number_at(other)) for n, other in zip(told, words)), 0)

    def test_papers(self):
        for tower in ENDING:
            paper = end_paper(tower)
            self.assertEqual(paper[0], "powers")
            self.check_paper(tower, paper)
            self.assertIs(is_end_paper(tower, paper), True)
            self.assertIs(is_end_paper(plain_tower(tower), paper), True)
        for tower in ENDLESS:
            paper = end_paper(tower)
            self.assertEqual(paper[0], "test")
            self.check_paper(tower, paper)
            self.assertIs(is_end_paper(tower, paper), True)
            self.assertIs(is_end_paper(tower, ("powers", ())), False)

    def test_power_papers_of_others(self):
        for tower in ENDING:
            word, told = end_paper(tower)
            factors = [Sum.letter(tower.letters, index) for index in even_letters(tower.letters)]
            one = Sum.one(tower.letters)
            right = [(word, told), (word, tuple(a_sum * SIXTY * -SIXTY for a_sum in told)),
                     (word, tuple(a_sum * (1, SIXTY) for a_sum in told)),
                     (word, tuple(a_sum + one * 7 for a_sum in told)),
                     # higher powers, and other sums with the same step
                     (word, tuple(a_sum * letter for a_sum, letter in zip(told, factors))),
                     (word, tuple(a_sum * power(letter, 20) + letter for a_sum, letter in zip(told, factors)))]
            for value in right:
                self.assertIs(is_end_paper(tower, value), True)
            if not told:
                self.assertIs(is_end_paper(tower, (word, (one,))), False)
                continue
            zero = one - one
            near = [(word, told + told[:1]), (word, told[:-1]), (word, told[:-1] + (zero,)), (word, told[:-1] + (one,)),
                    (word, list(told)), [word, told], (word, told, told), (word,), ("power", told), ("test", told),
                    (word, told[:-1] + (None,)), (word, told[:-1] + (told[-1].terms,)), told, (told, word),
                    (word, told[:-1] + (Sum((2, 3, 3, 3, 3, 3, 3), {}),)), (word, (told,)), (word, told[:-1] + ((told[-1],),))]
            if len(told) > 1:
                near += [(word, told[::-1]), (word, (told[0] + told[1],) + told[1:]), (word, (told[0] * factors[1],) + told[1:])]
            for value in near:
                self.assertIs(is_end_paper(tower, value), False)

    def test_told_power_papers(self):
        y = Sum.letter((2, 3), 1)
        self.assertIs(is_end_paper(BALL, ("powers", (y * 5,))), True)
        self.assertIs(is_end_paper(BALL, ("powers", (Sum((2, 3), {(4, 1): 1}),))), True)
        # two words of one letter are not one word
        self.assertIs(is_end_paper(BALL, ("powers", (Sum((2, 3), {(4, 1): 1, (0, 1): 1}),))), False)
        self.assertIs(is_end_paper(EMPTY, ("powers", ())), True)
        self.assertIs(is_end_paper(HALF, ("powers", ())), True)
        # the plain tower's step counts: the one of the tower itself has more words
        last = TWIST.letter_sum(4)
        self.same(len(TWIST.step(last)), 2)
        self.assertIs(is_end_paper(TWIST, ("powers", (last,))), True)
        # an even letter of the tower has a step, but none in the plain tower
        five = KNIT.letter_sum(5)
        self.assertIs(is_end_paper(KNIT, ("powers", (five + KNIT.letter_sum(3) * 2,))), True)
        self.assertIs(is_end_paper(KNIT, ("powers", (KNIT.letter_sum(3),))), False)
        # a word of both letters is no power
        first, second = BOTH.letter_sum(0), BOTH.letter_sum(1)
        three, four = BOTH.letter_sum(2), BOTH.letter_sum(3)
        self.assertIs(is_end_paper(BOTH, ("powers", (three, four))), True)
        self.assertIs(is_end_paper(BOTH, ("powers", (three * second, four))), False)
        self.assertIs(is_end_paper(BOTH, ("powers", (three * first * first, four * second))), True)
        self.assertIs(is_end_paper(BOTH, ("powers", (four, three))), False)
        # a sum of more words whose steps leave one power
        tower = Tower((2, 2, 3, 3), ({}, {}, {(2, 0, 0, 0): 1, (0, 2, 0, 0): SIXTY}, {(0, 2, 0, 0): 3}))
        a, b = tower.letter_sum(2), tower.letter_sum(3)
        self.assertIs(is_end_paper(tower, ("powers", (a * 3 - b * SIXTY, b))), True)
        self.assertIs(is_end_paper(tower, ("powers", (a * 3 + b * SIXTY, b))), False)

    def test_test_papers_of_others(self):
        for tower in ENDLESS:
            word, degree, told = end_paper(tower)
            for factor in (1, -1, HUGE, -HUGE * HUGE):
                self.assertIs(is_end_paper(tower, (word, degree, tuple(number * factor for number in told))), True)
            near = [(word, degree, told + (0,)), (word, degree, told[:-1]), (word, degree, (0,) * len(told)),
                    (word, degree, list(told)), [word, degree, told], (word, degree), (word, told, degree),
                    (word, degree, told, told), ("tests", degree, told), (word, degree + 1, told), (word, str(degree), told),
                    (word, (degree, 1), told), (word, degree, None), (word, degree, told[:-1] + (None,)),
                    (word, degree, tuple((number, 1) for number in told)), (word, degree, tuple(map(bool, told))),
                    (word, bool(degree), told), (word, -degree - 2, told), ("powers", degree, told)]
            for value in near:
                self.assertIs(is_end_paper(tower, value), False)
        for tower in ENDING:
            for degree in range(top_degree(tower.letters) + 1, top_degree(tower.letters) + 9):
                words = len([word for word in slow_words(tower.letters, degree)
                             if not any(e for e, letter in zip(word, tower.letters) if letter % 2)]) if tower is not EDGE else 0
                for value in ((1,) * words, (0,) * (words - 1) + (1,), (1,) + (0,) * (words - 1), (0,) * words):
                    self.assertIs(is_end_paper(tower, ("test", degree, value)), False)

    def test_told_test_papers(self):
        # N is 5: not at 5, at which there are no even words, nor below, and from 6 on
        self.same(top_degree(WIDE.letters), 5)
        for degree, words, wanted in [(2, 2, False), (4, 3, False), (5, 0, False), (6, 4, True), (7, 0, False)]:
            self.assertIs(is_end_paper(WIDE, ("test", degree, (1,) * words)), wanted)
        self.assertIs(is_end_paper(WIDE, ("test", 8, (1, 0, 0, 0, 5))), True)
        self.assertIs(is_end_paper(WIDE, ("test", 8, (1, 0, 1, 0, 5))), False)
        self.assertIs(is_end_paper(WIDE, ("test", 10, (9, 0, 0, 0, 0, HUGE))), True)
        # N is 4, and there are even words at 4
        self.same(top_degree(COMMON.letters), 4)
        self.assertIs(is_end_paper(COMMON, ("test", 4, (1, 0, 0))), False)
        self.assertIs(is_end_paper(COMMON, ("test", 6, (1, 0, 0, 0))), True)
        self.assertIs(is_end_paper(COMMON, ("test", 6, (0, 1, 0, 0))), False)
        # the bound is N itself: N is 7, and N + 1 is the first degree
        seven = Tower((2, 2, 9), ({}, {}, {(5, 0, 0): 1}))
        self.same(top_degree(seven.letters), 7)
        self.assertIs(is_end_paper(seven, ("test", 8, (0, 0, 0, 0, 1))), True)
        self.assertIs(is_end_paper(seven, ("test", 6, (1, 0, 0, 0))), False)
        # to the degree 1000
        free = Tower((2,), ({},))
        for degree, value, wanted in [(0, (1,), True), (0, (-HUGE,), True), (0, (0,), False), (-2, (), False), (1, (), False),
                                      (2, (1,), True), (998, (1,), True), (1000, (1,), True), (1001, (), False),
                                      (1002, (1,), False), (1001, (1,), False), (HUGE, (1,), False), (True, (), False),
                                      (False, (1,), False), (0, (True,), False)]:
            self.assertIs(is_end_paper(free, ("test", degree, value)), wanted)
        wide = Tower((40, 40, 39), ({}, {}, {}))
        self.assertIs(is_end_paper(wide, ("test", 1000, (0,) * 25 + (1,))), True)
        self.assertIs(is_end_paper(wide, ("test", 1000, (0,) * 26)), False)
        self.assertIs(is_end_paper(wide, ("test", 1040, (0,) * 26 + (1,))), False)
        # to 120 even words
        three = Tower((2, 2, 2), ({},) * 3)
        self.assertIs(is_end_paper(three, ("test", 28, (0,) * 119 + (1,))), True)
        self.assertIs(is_end_paper(three, ("test", 30, (0,) * 135 + (1,))), False)
        # words with an odd letter have no integer of their own
        self.assertIs(is_end_paper(Tower((2, 3, 3), ({},) * 3), ("test", 6, (1,))), True)
        self.assertIs(is_end_paper(Tower((2, 3, 3), ({},) * 3), ("test", 6, (1, 1))), False)
        # errors of the other functions are none of this one
        self.assertIs(is_end_paper(PAST, ("test", 30, (1,) * 136)), False)
        last = [PAST.letter_sum(index) for index in (3, 4, 5)]
        self.assertIs(is_end_paper(PAST, ("powers", tuple(last))), True)

    def test_any_value_is_judged(self):
        for tower in (BALL, OPEN, EMPTY, PAST):
            for value in any_values():
                self.assertIs(is_end_paper(tower, value), False)
                for word in ("powers", "test"):
                    wanted = word == "powers" and tower is EMPTY and type(value) is tuple and value == ()
                    self.assertIs(is_end_paper(tower, (word, value)), wanted)
                    self.assertIs(is_end_paper(tower, (word, value, value)), False)
                    self.assertIs(is_end_paper(tower, (word, 8, value)), False)
                    self.assertIs(is_end_paper(tower, (word, (value,))), False)


class TopTest(Case):
    def test_top_classes(self):
        for tower in ENDING:
            top = top_degree(tower.letters)
            if top > 60 or any(word_count(tower.letters, degree) > 150 for degree in range(max(top - 1, 0), top + 2)):
                continue
            a_sum = top_class(tower)
            self.assertEqual((a_sum.letters, a_sum.degree), (tower.letters, top))
            self.assertIs(tower.is_closed(a_sum), True)
            self.assertEqual(class_paper(tower, a_sum)[0], "test")
            if top < 14:
                self.assertFalse(slow_is_step(tower, a_sum))
        self.assertEqual(top_class(EMPTY), Sum.one(()))

    def test_total_numbers(self):
        for tower, wanted in [(EMPTY, 1), (BALL, 2), (PLANE, 3), (HALF, 6), (BOTH, 4), (TWIST, 12), (flags(4), 24),
                              (spaces(3, 6), 20), (special_group(6), 32), (sphere(20), 2), (LONG, 4)]:
            self.same(total_count(tower), wanted)
            self.same(total_count(tower), sum(class_count(tower, at) for at in range(top_degree(tower.letters) + 1)))

    def test_endless(self):
        for tower in ENDLESS:
            self.fails("Refused", ("endless",), top_class, tower)
            self.fails("Refused", ("endless",), total_count, tower)
        # ahead of a top degree that is too high, behind too many even words
        high = Tower((2, 39, 39), ({},) * 3)
        self.fails("Refused", ("endless",), top_class, high)
        self.fails("TooMany", 120, top_class, Tower(PAST.letters, ({},) * 6))

    def test_great_degrees(self):
        for letters, wanted in [((21, 39), True), ((21, 3, 37), False), ((39, 39), False)]:
            tower = Tower(letters, ({},) * len(letters))
            self.same(does_end(tower), True)
            if wanted:
                self.same(top_degree(letters), 60)
                self.assertEqual(top_class(tower), Sum(letters, {(1,) * len(letters): 1}))
                self.same(total_count(tower), 4)
            else:
                self.assertGreater(top_degree(letters), 60)
                self.fails("TooMany", 60, top_class, tower)
                self.fails("TooMany", 60, total_count, tower)

    def test_150_words_and_more(self):
        # 252 words at 15, one at 30
        ten = Tower((3,) * 10, ({},) * 10)
        self.same(word_count(ten.letters, 15), 252)
        self.assertEqual(top_class(ten), Sum(ten.letters, {(1,) * 10: 1}))
        self.fails("TooMany", 150, total_count, ten)
        nine = Tower((3,) * 9, ({},) * 9)
        self.same(total_count(nine), 512)
        # at the top degree, and beside it
        crowd = beside(Tower((2, 2, 17, 17), ({}, {}, {(9, 0, 0, 0): 1}, {(0, 9, 0, 0): 1})), Tower((3,) * 4, ({},) * 4))
        self.same(top_degree(crowd.letters), 44)
        self.assertGreater(word_count(crowd.letters, 44), 150)
        self.assertIs(does_end(crowd), True)
        self.fails("TooMany", 150, top_class, crowd)
        self.fails("TooMany", 150, total_count, crowd)
        self.fails("TooMany", 150, top_class, EDGE)
        # beside it alone
        squares = [{(2,) + (0,) * 7: 1}, {(0, 2) + (0,) * 6: 1}, {(0, 0, 2) + (0,) * 5: 1}]
        beyond = Tower((2, 2, 2, 3, 3, 3, 3, 3), ({},) * 3 + tuple(squares) + ({},) * 2)
        self.same((top_degree(beyond.letters), does_end(beyond)), (12, True))
        self.same([word_count(beyond.letters, degree) for degree in (11, 12, 13)], [105, 133, 165])
        self.fails("TooMany", 150, top_class, beyond)
        self.fails("TooMany", 150, total_count, beyond)

    def test_untrue_statements(self):
        # [8.7]
        self.same((top_degree((2, 2)), class_count(Tower((2, 2), ({}, {})), 1)), (-2, 0))
        self.same((top_degree(APART.letters) + 1, class_count(APART, 2), does_end(APART)), (2, 0, False))
        self.assertNotEqual(class_row(TWIST, 13), class_row(plain_tower(TWIST), 13))
        self.assertNotEqual(class_row(HALF, 11), class_row(plain_tower(HALF), 11))
        self.same((euler_number((2, 2, 3, 3)), does_end(COMMON)), ((4, 1), False))


if __name__ == "__main__":
    unittest.main()
