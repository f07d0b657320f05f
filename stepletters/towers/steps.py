"""Steps of words, for letters whose steps are dicts from words to ratios.

The steps of letters have letters with lesser indices alone.
"""

from stepletters.base.exact import ZERO, added, multiplied
from stepletters.words.words import joined_words, odd_indices


def step_of_numbers(letters, steps, numbers):
    """The step of a sum, both told as dicts from words to ratios."""
    found = {}
    for word, number in numbers.items():
        for other, factor in step_of_word(letters, steps, word).items():
            found[other] = added(found.get(other, ZERO), multiplied(number, factor))
    return {word: number for word, number in found.items() if number != ZERO}


def step_of_word(letters, steps, word):
    """The step of a word, a dict from words to ratios."""
    odds = odd_indices(letters)
    found = {}
    sign = 1
    for index, exponent in enumerate(word):
        if exponent > 0:
            ahead = word[:index] + (0,) * (len(word) - index)
            behind = (0,) * index + (exponent - 1,) + word[index + 1:]
            for inner, number in steps[index].items():
                joined = joined_words(odds, ahead, inner)
                # Nothing of `inner` stands at or behind the index, so what is
                # behind there is joined without a further sign.
                if joined is not None:
                    whole = tuple([left + right for left, right in zip(joined[1], behind)])
                    product = (sign * joined[0] * exponent, 1)
                    found[whole] = added(found.get(whole, ZERO), multiplied(product, number))
            if letters[index] % 2 == 1:
                sign = -sign
    return {other: number for other, number in found.items() if number != ZERO}
