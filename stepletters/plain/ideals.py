"""Which sums of even words the steps of odd letters of a plain tower make.

Even words are told by the exponents of the even letters alone, and `evens` are the
degrees of these. `parts` are, for odd letters, their steps in the plain tower, dicts
from even words to ratios, each with its degree: pairs (degree, dict). Nothing here
checks what is passed to it.
"""

from stepletters.base.echelon import are_all_made
from stepletters.classes.rows import whole_rows
from stepletters.words.words import count_words, listed_words, odd_indices


def bound_of(letters):
    """The sum of all odd degrees, less that of d - 1 over all even degrees d."""
    return sum([degree if degree % 2 == 1 else 1 - degree for degree in letters])


def even_degrees(letters):
    """The degrees of the even letters."""
    return tuple([degree for degree in letters if degree % 2 == 0])


def odd_degrees(letters):
    """The degrees of the odd letters."""
    return tuple([degree for degree in letters if degree % 2 == 1])


def plain_parts(tower):
    """The steps of the odd letters in the plain tower of a tower."""
    odds = odd_indices(tower.letters)
    found = []
    for index in odds:
        step = {word: number for word, number in tower.steps[index] if all([word[at] == 0 for at in odds])}
        shorter = {even_word(tower.letters, word): number for word, number in step.items()}
        found.append((tower.letters[index] + 1, shorter))
    return found


def even_word(letters, word):
    """The exponents of the even letters in a word."""
    return tuple([exponent for degree, exponent in zip(letters, word) if degree % 2 == 0])


def whole_word(letters, word, index):
    """The word with told exponents of the even letters, and the odd letter with the index."""
    found = []
    taken = 0
    for at, degree in enumerate(letters):
        if degree % 2 == 0:
            found.append(word[taken])
            taken += 1
        else:
            found.append(1 if at == index else 0)
    return tuple(found)


def made_rows(evens, parts, degree):
    """All products of a degree of a part and an even word, and their rows of ratios.

    A product is told by the place of the part and the word.
    """
    places = {word: at for at, word in enumerate(listed_words(evens, degree))}
    products, rows = [], []
    for part, (size, numbers) in enumerate(parts):
        # A part 0 makes nothing, and there can be very many words beside it.
        if len(numbers) > 0:
            for word in listed_words(evens, degree - size):
                products.append((part, word))
                rows.append({places[_joined(word, other)]: number for other, number in numbers.items()})
    return products, rows


def first_power(degree, bound):
    """How often a letter of the degree has to be taken to be above the bound, at least 0."""
    return bound // degree + 1


def open_degree(evens, parts, bound):
    """A degree above the bound, at least 0, at which the parts do not make all even words.

    None if there is none. By [8.2] it is enough to look where each letter has its first
    power above the bound: if all of these are made, so is all above them.
    """
    for degree in sorted({even * first_power(even, bound) for even in evens}):
        rows = whole_rows(made_rows(evens, parts, degree)[1])
        if not are_all_made(rows, count_words(evens, degree)):
            return degree
    return None


def _joined(word, other):
    return tuple([left + right for left, right in zip(word, other)])
