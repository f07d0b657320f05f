"""Letters, told by their degrees, and words, told by an exponent for each letter."""

from stepletters.base.exact import is_whole
from stepletters.base.ratios import check_between, is_between
from stepletters.errors import InvalidLetters, InvalidNumber, InvalidOperation, InvalidWord, TooMany

MAX_LETTERS = 24
MAX_LETTER = 40
MAX_DEGREE = 80
MAX_WORDS = 400
_MAX_PASSED = 400
_MAX_INDICES = 40


def is_letters(value):
    """Whether the value is letters: at most 24 degrees from 1 to 40."""
    if not isinstance(value, tuple) or len(value) > MAX_LETTERS:
        return False
    return all([is_between(degree, 1, MAX_LETTER) for degree in value])


def is_word(letters, value):
    """Whether the value is a word of the letters with a degree of at most 400."""
    check_letters(letters)
    return is_passed_word(letters, value)


def word_degree(letters, word):
    """The degree of a word."""
    check_word(letters, word)
    return degree_of(letters, word)


def word_length(letters, word):
    """The sum of the exponents of a word."""
    check_word(letters, word)
    return length_of(word)


def word_product(letters, one, other):
    """The product of two words: a sign and a word, None if it is 0."""
    check_word(letters, one)
    check_word(letters, other)
    return joined_words(odd_indices(letters), one, other)


def words_of(letters, degree):
    """The ascending tuple of all words of a degree."""
    check_letters(letters)
    check_between(degree, 0, MAX_DEGREE)
    if count_words(letters, degree) > MAX_WORDS:
        raise TooMany(MAX_WORDS)
    return tuple(listed_words(letters, degree))


def word_count(letters, degree):
    """The number of words of a degree."""
    check_letters(letters)
    check_between(degree, 0, MAX_DEGREE)
    return count_words(letters, degree)


def even_letters(letters):
    """The indices of all even letters."""
    check_letters(letters)
    return tuple([index for index, degree in enumerate(letters) if degree % 2 == 0])


def odd_letters(letters):
    """The indices of all odd letters."""
    check_letters(letters)
    return odd_indices(letters)


def top_word(letters):
    """The word of the highest degree, of letters without even ones."""
    check_letters(letters)
    if len(odd_indices(letters)) < len(letters):
        raise InvalidOperation("with an even letter no word has the highest degree")
    return (1,) * len(letters)


def sorted_word(letters, indices):
    """The product of letters in a told sequence: a sign and a word, None if it is 0."""
    check_letters(letters)
    if not _is_indices(letters, indices):
        raise InvalidOperation("not a tuple of at most 40 indices of letters")
    odds = odd_indices(letters)
    sign, word = 1, unit_word(letters)
    for index in indices:
        joined = joined_words(odds, word, unit_word(letters, index))
        if joined is None:
            return None
        sign, word = sign * joined[0], joined[1]
    return (sign, word)


def each_word(letters, most):
    """All words of degrees from 0 to `most`, by degrees, those of one degree ascending."""
    check_letters(letters)
    check_between(most, 0, MAX_DEGREE)
    counts = suffix_counts(letters, most)
    for degree in range(most + 1):
        word = first_word(letters, counts, degree)
        while word is not None:
            yield word
            word = next_word(letters, counts, word)


def check_letters(letters):
    """Raise the error for a value that is no letters."""
    if not is_letters(letters):
        raise InvalidLetters("not a tuple of at most 24 degrees from 1 to 40")


def check_word(letters, word):
    """Raise the error for letters that are none, or a word that is none of them."""
    check_letters(letters)
    if not is_passed_word(letters, word):
        raise InvalidWord("not a word of the letters of a degree of at most 400")


def check_index(letters, index):
    """Raise the error for a value that is not the index of a letter."""
    if not is_index(letters, index):
        raise InvalidNumber(index)


def is_index(letters, value):
    """Whether the value is the index of a letter."""
    return is_between(value, 0, len(letters) - 1)


def is_exponents(value, size):
    """Whether the value is a tuple of so many integers, however long."""
    if not isinstance(value, tuple) or len(value) != size:
        return False
    return all([is_whole(exponent) for exponent in value])


def is_passed_word(letters, value):
    """Whether the value is a word of right letters with a degree of at most 400."""
    if not is_exponents(value, len(letters)):
        return False
    for degree, exponent in zip(letters, value):
        if exponent < 0 or (degree % 2 == 1 and exponent > 1):
            return False
    return degree_of(letters, value) <= _MAX_PASSED


def odd_indices(letters):
    """The indices of the odd ones of right letters."""
    return tuple([index for index, degree in enumerate(letters) if degree % 2 == 1])


def unit_word(letters, index=None):
    """The word 1, or that of the one letter with the index."""
    return tuple([1 if at == index else 0 for at in range(len(letters))])


def degree_of(letters, word):
    """The degree of a word of right letters."""
    return sum([degree * exponent for degree, exponent in zip(letters, word)])


def length_of(word):
    """The length of a word."""
    return sum(word)


def joined_words(odds, one, other):
    """The product of two words, `odds` being the indices of the odd letters."""
    sign = 1
    behind = 0
    # From the last odd letter on: `behind` counts those of the first word that
    # a letter of the second one has to change places with.
    for index in reversed(odds):
        if other[index] == 1:
            if one[index] == 1:
                return None
            if behind % 2 == 1:
                sign = -sign
        elif one[index] == 1:
            behind += 1
    return (sign, tuple([left + right for left, right in zip(one, other)]))


def count_words(letters, degree):
    """The number of words of any degree; there are none below 0."""
    if degree < 0:
        return 0
    return suffix_counts(letters, degree)[0][degree]


def listed_words(letters, degree):
    """The ascending list of all words of any degree."""
    if degree < 0:
        return []
    counts = suffix_counts(letters, degree)
    found = []
    word = first_word(letters, counts, degree)
    while word is not None:
        found.append(word)
        word = next_word(letters, counts, word)
    return found


def suffix_counts(letters, most):
    """For each index, and the number of letters, a list by degrees from 0 to `most`.

    It tells the numbers of words in the letters from this index on.
    """
    rows = [[1] + [0] * most]
    for letter in reversed(letters):
        rows.append(_counts_with(rows[-1], letter))
    return rows[::-1]


def first_word(letters, counts, degree):
    """The least word of a degree, None without one; `counts` are the suffix counts."""
    if counts[0][degree] == 0:
        return None
    return tuple(_least_exponents(letters, counts, 0, degree))


def next_word(letters, counts, word):
    """The next word of the same degree, None behind the last one."""
    rest = 0
    for index in reversed(range(len(letters))):
        rise = _least_rise(letters[index], counts[index + 1], word[index], rest)
        if rise > 0:
            rest = rest - rise * letters[index]
            tail = _least_exponents(letters, counts, index + 1, rest)
            return word[:index] + (word[index] + rise,) + tuple(tail)
        rest = rest + word[index] * letters[index]
    return None


def _counts_with(row, letter):
    found = list(row)
    for degree in range(letter, len(row)):
        # An even letter can stand again where it stands already, an odd one cannot.
        former = row if letter % 2 == 1 else found
        found[degree] = found[degree] + former[degree - letter]
    return found


def _least_exponents(letters, counts, start, rest):
    found = []
    for index in range(start, len(letters)):
        exponent = 0
        while counts[index + 1][rest] == 0:
            exponent += 1
            rest = rest - letters[index]
        found.append(exponent)
    return found


def _least_rise(letter, counts, exponent, rest):
    most = rest // letter
    if letter % 2 == 1:
        most = min(most, 1 - exponent)
    for rise in range(1, most + 1):
        if counts[rest - rise * letter] > 0:
            return rise
    return 0


def _is_indices(letters, value):
    if not isinstance(value, tuple) or len(value) > _MAX_INDICES:
        return False
    return all([is_index(letters, index) for index in value])
