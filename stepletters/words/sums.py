"""Sums of words of the same letters, each times a ratio other than 0."""

from math import gcd

from stepletters.base.exact import ONE, ZERO, added, multiplied, quotient_text, whole_multiple
from stepletters.base.ratios import as_ratio, check_between, is_integer, is_number
from stepletters.errors import InvalidNumber, InvalidOperation, InvalidSum, TooMany
from stepletters.words.words import check_index, check_letters, check_word, degree_of, is_exponents, is_index
from stepletters.words.words import is_passed_word, joined_words, odd_indices, unit_word

MAX_TERMS = 400
MAX_PAIRS = 40000
MAX_POWER = 40


class Sum:
    """A sum in some letters: a number other than 0 for each of its words."""

    def __init__(self, letters, terms):
        check_letters(letters)
        if not is_terms(letters, terms):
            raise InvalidSum("not a dict of at most 400 words with numbers")
        self._letters = letters
        self._numbers = ascending({word: as_ratio(number) for word, number in terms.items()})

    @classmethod
    def letter(cls, letters, index):
        """A letter as a sum."""
        check_letters(letters)
        check_index(letters, index)
        return cls(letters, {unit_word(letters, index): 1})

    @classmethod
    def one(cls, letters):
        """The word 1 as a sum."""
        check_letters(letters)
        return cls(letters, {unit_word(letters): 1})

    @property
    def letters(self):
        """The degrees of the letters."""
        return self._letters

    @property
    def terms(self):
        """The dict from words to ratios, words ascending."""
        return {word: number for word, number in self._numbers.items()}

    @property
    def is_level(self):
        """Whether all words have one degree."""
        return len(_degrees_in(self._letters, self._numbers)) < 2

    @property
    def degree(self):
        """The degree of a level sum other than 0, None for other sums."""
        degrees = _degrees_in(self._letters, self._numbers)
        return degrees[0] if len(degrees) == 1 else None

    def number_at(self, word):
        """The ratio of a word, 0 if the sum does not have it."""
        check_word(self._letters, word)
        return self._numbers.get(word, ZERO)

    def part(self, degree):
        """The sum of all terms of a degree."""
        if not is_integer(degree) or degree < 0:
            raise InvalidNumber(degree)
        letters = self._letters
        kept = {word: number for word, number in self._numbers.items() if degree_of(letters, word) == degree}
        return made_sum(letters, kept)

    def __add__(self, other):
        if not isinstance(other, Sum):
            return NotImplemented
        check_sum(self._letters, other)
        return made_sum(self._letters, _added_numbers(self._numbers, other._numbers))

    def __sub__(self, other):
        if not isinstance(other, Sum):
            return NotImplemented
        check_sum(self._letters, other)
        return made_sum(self._letters, _added_numbers(self._numbers, _scaled_numbers(other._numbers, (-1, 1))))

    def __neg__(self):
        return made_sum(self._letters, _scaled_numbers(self._numbers, (-1, 1)))

    def __mul__(self, other):
        if isinstance(other, bool) or not isinstance(other, (int, tuple, Sum)):
            return NotImplemented
        if not isinstance(other, Sum):
            return _multiple(self, other)
        check_sum(self._letters, other)
        if len(self._numbers) * len(other._numbers) > MAX_PAIRS:
            raise TooMany(MAX_PAIRS)
        return made_sum(self._letters, joined_numbers(self._letters, self._numbers, other._numbers))

    def __eq__(self, other):
        return isinstance(other, Sum) and self._letters == other._letters and self._numbers == other._numbers

    def __contains__(self, x):
        # What is no tuple of integers may not be looked up in a dict at all.
        return is_exponents(x, len(self._letters)) and x in self._numbers

    def __len__(self):
        return len(self._numbers)

    def __bool__(self):
        return bool(self._numbers)

    def __iter__(self):
        return iter(self._numbers.items())

    def __str__(self):
        return "".join(_sum_pieces(self._numbers))


def power(a_sum, many):
    """The sum multiplied with itself so many times."""
    check_some_sum(a_sum)
    check_between(many, 0, MAX_POWER)
    result = Sum.one(a_sum.letters)
    for _ in range(many):
        result = result * a_sum
    return result


def placed(a_sum, letters, places):
    """The sum with the letter `places[i]` of other letters for each letter i."""
    check_some_sum(a_sum)
    check_letters(letters)
    if not _is_placing(a_sum.letters, letters, places):
        raise InvalidOperation("not an own letter of the same degree for each letter of the sum")
    odds = odd_indices(a_sum.letters)
    found = {}
    for word, number in a_sum:
        found[_placed_word(word, len(letters), places)] = _turned_number(number, odds, places, word)
    return made_sum(letters, found)


def plain_sum(a_sum):
    """The multiple with integers without a common divisor, the first one above 0."""
    check_some_sum(a_sum)
    numbers = whole_multiple(a_sum.terms)
    common = 0
    for number in numbers.values():
        common = gcd(common, number)
    if len(numbers) > 0 and list(numbers.values())[0] < 0:
        common = -common
    return made_sum(a_sum.letters, {word: (number // common, 1) for word, number in numbers.items()})


def is_terms(letters, value):
    """Whether the value is a dict of at most 400 words of right letters with numbers."""
    if not isinstance(value, dict) or len(value) > MAX_TERMS:
        return False
    for word, number in value.items():
        if not is_passed_word(letters, word) or not is_number(number):
            return False
    return True


def is_sum(letters, value):
    """Whether the value is a sum in the letters."""
    return isinstance(value, Sum) and value.letters == letters


def check_some_sum(a_sum):
    """Raise the error for a value that is no sum in any letters."""
    if not isinstance(a_sum, Sum):
        raise InvalidSum("not a sum")


def check_sum(letters, a_sum):
    """Raise the error for a value that is no sum in the letters."""
    if not is_sum(letters, a_sum):
        raise InvalidSum("not a sum in these letters")


def made_sum(letters, numbers):
    """The sum of right words with ratios, of any size and as many as there are."""
    made = Sum(letters, {})
    made._numbers = ascending(numbers)
    return made


def joined_numbers(letters, numbers, others):
    """The product of two sums of right words, told as dicts, however many words they have."""
    odds = odd_indices(letters)
    found = {}
    for one, number in numbers.items():
        for other, factor in others.items():
            joined = joined_words(odds, one, other)
            if joined is not None:
                sign, word = joined
                product = multiplied((sign * number[0], number[1]), factor)
                found[word] = added(found.get(word, ZERO), product)
    return {word: number for word, number in found.items() if number != ZERO}


def ascending(numbers):
    """The dict with ascending words, without those of the ratio 0."""
    return {word: numbers[word] for word in sorted(list(numbers)) if numbers[word] != ZERO}


def _degrees_in(letters, numbers):
    return sorted({degree_of(letters, word) for word in numbers})


def _added_numbers(numbers, others):
    found = {word: number for word, number in numbers.items()}
    for word, number in others.items():
        found[word] = added(found.get(word, ZERO), number)
    return found


def _scaled_numbers(numbers, factor):
    return {word: multiplied(number, factor) for word, number in numbers.items()}


def _multiple(a_sum, number):
    if not is_number(number):
        raise InvalidNumber(number)
    return made_sum(a_sum.letters, _scaled_numbers(a_sum.terms, as_ratio(number)))


def _is_placing(letters, others, value):
    if not isinstance(value, tuple) or len(value) != len(letters):
        return False
    if not all([is_index(others, place) for place in value]):
        return False
    if len(set(value)) < len(value):
        return False
    return all([others[place] == degree for place, degree in zip(value, letters)])


def _placed_word(word, size, places):
    exponents = [0] * size
    for place, exponent in zip(places, word):
        exponents[place] = exponent
    return tuple(exponents)


def _turned_number(number, odds, places, word):
    taken = [places[index] for index in odds if word[index] == 1]
    crossed = 0
    for at, place in enumerate(taken):
        crossed = crossed + len([former for former in taken[:at] if former > place])
    return number if crossed % 2 == 0 else (-number[0], number[1])


def _sum_pieces(numbers):
    if len(numbers) == 0:
        return ["0"]
    pieces = []
    for word, number in numbers.items():
        below = number[0] < 0
        if len(pieces) > 0:
            pieces.append(" - " if below else " + ")
        elif below:
            pieces.append("-")
        pieces.append(_term_text(word, (abs(number[0]), number[1])))
    return pieces


def _term_text(word, size):
    letters = " ".join([_letter_text(index, exponent) for index, exponent in enumerate(word) if exponent > 0])
    if letters == "":
        return quotient_text(size)
    if size == ONE:
        return letters
    return f"{quotient_text(size)} {letters}"


def _letter_text(index, exponent):
    return f"x{index}" if exponent == 1 else f"x{index}**{exponent}"
