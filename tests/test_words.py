"""Stage 2, letters and words: [2.1] to [2.4], [0.8]."""

import inspect
import itertools
import random
import unittest

from stepletters.words import words
from support import HUGE, LONGER, Case, any_values, slow_sorted, slow_words, spelled

WORDS = (2, 3, 3)
LETTERS = [(), (1,), (2,), (40,), (39,), (2, 3, 3), (1, 1, 1, 1), (4, 1, 2, 3), (3, 2, 5, 2, 1)]
NOT_LETTERS = [None, True, 2, "ab", [2, 3], [], {2: 3}, {}, (0,), (41,), (-1,), (2, True), (True,), (2, None), (2, "3"),
               ((2,),), (2, (3, 1)), (2,) * 25, (LONGER,), (2, HUGE), (1,) * 24 + (0,)]
NOT_WORDS = [None, True, 0, "abc", (), (1, 1), (1, 1, 1, 1), [1, 1, 0], {0: 1}, (0, 2, 0), (0, 0, 2), (-1, 0, 0),
             (0, -1, 0), (True, 0, 0), (1, False, 0), (0, True, 0), (1, None, 0), (1, "1", 0), (1, (1, 1), 0),
             ((1, 1, 0),), (201, 0, 0), (198, 1, 1), (LONGER, 0, 0), (0, HUGE, 0)]
NOT_DEGREES = [None, True, False, -1, 81, LONGER, -LONGER, HUGE, "5", (), (5,), [5], (5, 1), {5: 1}]


class LettersTest(Case):
    def test_constants(self):
        told = (words.MAX_LETTERS, words.MAX_LETTER, words.MAX_DEGREE, words.MAX_WORDS)
        self.same(told, (24, 40, 80, 400))

    def test_is_letters(self):
        for value in LETTERS + [(40,) * 24, (1,) * 24, (1, 40) * 12]:
            self.assertIs(words.is_letters(value), True)
        for value in NOT_LETTERS:
            self.assertIs(words.is_letters(value), False, repr(value)[:60])
        for value in any_values():
            right = (type(value) is tuple and len(value) <= 24
                     and all(type(part) is int and 1 <= part <= 40 for part in value))
            self.assertIs(words.is_letters(value), right)

    def test_even_and_odd_letters(self):
        for letters in LETTERS:
            self.same(words.even_letters(letters), tuple(i for i, d in enumerate(letters) if d % 2 == 0))
            self.same(words.odd_letters(letters), tuple(i for i, d in enumerate(letters) if d % 2 == 1))

    def test_every_function_refuses_wrong_letters(self):
        for value in NOT_LETTERS:
            for call in (words.even_letters, words.odd_letters, words.top_word):
                self.fails("InvalidLetters", None, call, value)
            for call in (words.is_word, words.word_degree, words.word_length, words.words_of, words.word_count,
                         words.sorted_word):
                self.fails("InvalidLetters", None, call, value, None)
            self.fails("InvalidLetters", None, words.word_product, value, None, None)
            self.fails("InvalidLetters", None, next, words.each_word(value, None))

    def test_top_word(self):
        self.same(words.top_word(()), ())
        self.same(words.top_word((3, 5)), (1, 1))
        self.same(words.top_word((1,) * 24), (1,) * 24)
        for letters in ((2,), (3, 4), (40, 1)):
            self.fails("InvalidOperation", None, words.top_word, letters)
        odds = (1, 3, 3)
        self.same(words.words_of(odds, 7), (words.top_word(odds),))
        self.same(words.word_count(odds, 8), 0)


class WordTest(Case):
    def test_is_word(self):
        for value in [(0, 0, 0), (200, 0, 0), (197, 1, 1), (0, 1, 1), (5, 0, 1)]:
            self.assertIs(words.is_word(WORDS, value), True)
        for value in NOT_WORDS:
            self.assertIs(words.is_word(WORDS, value), False, repr(value))
        self.assertIs(words.is_word((), ()), True)
        self.assertIs(words.is_word((1,) * 24, (1,) * 24), True)
        self.assertIs(words.is_word((40,), (10,)), True)
        self.assertIs(words.is_word((40,), (11,)), False)
        self.assertIs(words.is_word((2, 3), (198, 1)), True)
        self.assertIs(words.is_word((2, 3), (199, 1)), False)
        for value in any_values():
            self.assertIs(words.is_word(WORDS, value), False)
            self.assertIs(words.is_word((), value), value == () and type(value) is tuple)

    def test_degree_and_length(self):
        for letters in LETTERS:
            for degree in range(7):
                for word in slow_words(letters, degree):
                    self.same(words.word_degree(letters, word), degree)
                    self.same(words.word_length(letters, word), len(spelled(word)))
        self.same(words.word_degree(WORDS, (200, 0, 0)), 400)
        for value in NOT_WORDS:
            self.fails("InvalidWord", None, words.word_degree, WORDS, value)
            self.fails("InvalidWord", None, words.word_length, WORDS, value)

    def test_products(self):
        for letters in LETTERS:
            some = [word for degree in range(6) for word in slow_words(letters, degree)]
            for one, other in itertools.product(some, some):
                wanted = slow_sorted(letters, spelled(one) + spelled(other))
                self.same(words.word_product(letters, one, other), wanted)

    def test_rules_of_products(self):
        dice = random.Random(5)
        letters = (1, 2, 3, 3, 4, 5, 1)

        def some_word():
            return tuple(dice.randint(0, 1 if degree % 2 else 3) for degree in letters)

        for _ in range(400):
            one, other, third = some_word(), some_word(), some_word()
            made, turned = words.word_product(letters, one, other), words.word_product(letters, other, one)
            if made is None:
                self.assertIsNone(turned)
                continue
            odd = words.word_degree(letters, one) * words.word_degree(letters, other) % 2
            self.same(turned, (-made[0] if odd else made[0], made[1]))
            left = words.word_product(letters, made[1], third)
            inner = words.word_product(letters, other, third)
            if inner is None:
                self.assertIsNone(left)
            else:
                right = words.word_product(letters, one, inner[1])
                wanted = None if right is None else (inner[0] * right[0], right[1])
                self.assertEqual(None if left is None else (made[0] * left[0], left[1]), wanted)

    def test_products_can_have_great_degrees(self):
        self.same(words.word_product((2,), (200,), (200,)), (1, (400,)))
        self.same(words.word_product((), (), ()), (1, ()))
        self.same(words.word_product((3,), (1,), (1,)), None)

    def test_product_errors(self):
        for value in NOT_WORDS:
            self.fails("InvalidWord", None, words.word_product, WORDS, value, (0, 0, 0))
            self.fails("InvalidWord", None, words.word_product, WORDS, (0, 0, 0), value)

    def test_sorted_word(self):
        for letters in [(2, 3, 3), (1, 1, 1, 2)]:
            for many in range(5):
                for indices in itertools.product(range(len(letters)), repeat=many):
                    self.same(words.sorted_word(letters, indices), slow_sorted(letters, indices))
        self.same(words.sorted_word((), ()), (1, ()))
        self.same(words.sorted_word((2, 3), ()), (1, (0, 0)))
        self.same(words.sorted_word((40,), (0,) * 40), (1, (40,)))
        self.same(words.sorted_word((1,) * 24, tuple(range(24))[::-1]), (1, (1,) * 24))

    def test_sorted_word_errors(self):
        wrong = [None, True, 0, "0", [0], {0: 1}, (3,), (-1,), (True,), (0, None), (0, "1"), ((0,),), (LONGER,),
                 (0,) * 41, (0, 1, 5)]
        for value in wrong:
            self.fails("InvalidOperation", None, words.sorted_word, WORDS, value)
        self.fails("InvalidOperation", None, words.sorted_word, (), (0,))

    def test_untrue_statements(self):
        # [2.4]
        self.same(words.word_product((1,) * 4, (0, 1, 0, 1), (1, 0, 1, 0)), (-1, (1, 1, 1, 1)))
        lengths = {words.word_length((2, 4), word) for word in words.words_of((2, 4), 4)}
        self.assertEqual(lengths, {1, 2})
        self.same(words.word_product((2,), (1,), (1,)), (1, (2,)))


class CountingTest(Case):
    def test_words_of_and_word_count(self):
        for letters in LETTERS:
            for degree in range(13):
                wanted = tuple(slow_words(letters, degree))
                self.same(words.words_of(letters, degree), wanted)
                self.same(words.word_count(letters, degree), len(wanted))

    def test_the_series_of_counts(self):
        # [2.3], the product of power series made factor by factor
        for letters in LETTERS + [(1,) * 24, (2,) * 24, tuple(range(1, 25))]:
            series = [1] + [0] * 80
            for letter in letters:
                if letter % 2:
                    series = [a + (series[n - letter] if n >= letter else 0) for n, a in enumerate(series)]
                else:
                    for n in range(letter, 81):
                        series[n] += series[n - letter]
            self.same([words.word_count(letters, degree) for degree in range(81)], series)

    def test_edges_of_degrees(self):
        self.same(words.words_of((), 0), ((),))
        self.same(words.words_of((), 80), ())
        self.same(words.words_of((2,), 80), ((40,),))
        self.same(words.words_of((40,), 80), ((2,),))
        for value in NOT_DEGREES:
            self.fails("InvalidNumber", value, words.words_of, WORDS, value)
            self.fails("InvalidNumber", value, words.word_count, WORDS, value)
            self.fails("InvalidNumber", value, next, words.each_word(WORDS, value))

    def test_too_many_words(self):
        # of one, two and three letters of the degree 2: 1, n + 1 and (n + 1) (n + 2) / 2 words at 2 n
        self.assertEqual(len(words.words_of((2, 2, 2), 52)), 378)
        self.fails("TooMany", 400, words.words_of, (2, 2, 2), 54)
        self.same(words.word_count((2, 2, 2), 54), 406)
        # exactly 400 words, and 401
        found = words.words_of((2, 2, 4), 76)
        self.assertEqual((len(found), len(set(found)), list(found)), (400, 400, sorted(found)))
        self.same(words.word_count((2, 6, 6, 6, 8), 50), 401)
        self.fails("TooMany", 400, words.words_of, (2, 6, 6, 6, 8), 50)
        self.fails("InvalidNumber", 81, words.words_of, (2,) * 24, 81)
        self.assertGreater(words.word_count((2,) * 24, 80), 10 ** 15)


class EachWordTest(Case):
    def test_all_words_in_order(self):
        for letters in LETTERS:
            for most in (0, 1, 5, 9):
                wanted = [word for degree in range(most + 1) for word in slow_words(letters, degree)]
                self.same(list(words.each_word(letters, most)), wanted)

    def test_edges(self):
        self.same(list(words.each_word((), 80)), [()])
        self.same(list(words.each_word((40,), 80)), [(0,), (1,), (2,)])
        self.assertEqual(len(list(words.each_word((1,) * 10, 80))), 1024)

    def test_it_is_a_generator_that_makes_one_word_after_the_other(self):
        self.assertTrue(inspect.isgenerator(words.each_word((2,), 3)))
        first = list(itertools.islice(words.each_word((2,) * 24, 80), 1000))
        self.assertEqual(first[0], (0,) * 24)
        self.assertEqual(len(set(first)), 1000)

    def test_errors_come_with_the_first_word(self):
        for letters, most in ((None, 3), ((0,), -1), ((2,), 81), ((2,), True)):
            made = words.each_word(letters, most)
            self.assertTrue(inspect.isgenerator(made))
            name = "InvalidNumber" if words.is_letters(letters) else "InvalidLetters"
            self.fails(name, most, next, made)


if __name__ == "__main__":
    unittest.main()
