"""What the numbers of classes, their bases and papers are worked out with.

A sum of a degree is worked with as a row: the numbers of the words of this
degree, by their places in the ascending sequence of these words. Nothing here
checks what is passed to it, but for the functions that begin with `check`.
"""

from stepletters.base.echelon import dense, echelon, kernel_rows, left_over, pairing, solved, take_in, turned
from stepletters.base.exact import ONE, reduced, whole_multiple
from stepletters.errors import TooMany
from stepletters.towers.steps import step_of_word
from stepletters.towers.towers import step_dicts
from stepletters.words.sums import is_sum, made_sum
from stepletters.words.words import count_words, listed_words


def check_listed(letters, degrees, limit):
    """Raise the error for letters with more words of one of some degrees than the limit."""
    if any([count_words(letters, degree) > limit for degree in degrees]):
        raise TooMany(limit)


def is_closed_level(tower, value):
    """Whether the value is a closed level sum other than 0 in the letters of the tower."""
    return is_sum(tower.letters, value) and value.degree is not None and tower.is_closed(value)


def row_of_sum(words, a_sum):
    """The row of ratios of a sum."""
    numbers = a_sum.terms
    return {at: numbers[word] for at, word in enumerate(words) if word in numbers}


def sum_of_row(letters, words, row):
    """The sum of a row of integers."""
    return made_sum(letters, {words[at]: (number, 1) for at, number in row.items()})


def whole_rows(rows):
    """The least multiples of rows of ratios that are rows of integers."""
    return [whole_multiple(row) for row in rows]


def step_rows(tower, degree):
    """The steps of all words of a degree, as rows of ratios of the degree one higher."""
    steps = _word_steps(tower, listed_words(tower.letters, degree))
    return _placed_rows(steps, listed_words(tower.letters, degree + 1))


def step_lot(tower, degree):
    """A reduced lot of the steps that are sums of a degree."""
    return echelon(whole_rows(step_rows(tower, degree - 1)))


def word_rows(tower, words):
    """The steps of some words, as rows of ratios by the places of the words that these steps have."""
    steps = _word_steps(tower, words)
    return _placed_rows(steps, sorted({word for step in steps for word in step}))


def step_rank(tower, words):
    """The number of independent ones among the steps of some words."""
    return len(echelon(whole_rows(word_rows(tower, words))))


def closed_rows(tower, degree):
    """Independent rows of integers that make all closed sums of a degree."""
    words = listed_words(tower.letters, degree)
    return kernel_rows(whole_rows(turned(word_rows(tower, words))), len(words))


def source_of(tower, degree, a_sum):
    """A sum whose step is a sum that is 0 or has the degree, None if there is none."""
    wanted = row_of_sum(listed_words(tower.letters, degree), a_sum)
    ratios = solved_rows(step_rows(tower, degree - 1), wanted)
    if ratios is None:
        return None
    before = listed_words(tower.letters, degree - 1)
    return made_sum(tower.letters, {word: ratio for word, ratio in zip(before, ratios)})


def block_number(tower, words, before):
    """The number of independent classes that some words tell.

    The step of a sum of them has none of them, and the steps that are sums of
    them are those of the words `before`.
    """
    return len(words) - step_rank(tower, words) - step_rank(tower, before)


def solved_rows(rows, wanted):
    """Ratios by which rows of ratios make a further one, None if they do not."""
    return solved(whole_rows(turned(rows + [wanted])), len(rows))


def telling_row(rows, wanted, width):
    """Integers whose pairing with rows is 0, and with a row that they do not make is not."""
    for row in kernel_rows(rows, width):
        numbers = dense(row, width)
        if pairing(numbers, wanted) != 0:
            return numbers
    return None


def basis_lot(tower, degree, sums):
    """A lot of the steps and of some closed sums of a degree, None if these are no class basis.

    Behind the places of the words the row of each sum has a mark of its own, so
    that the lot tells by which multiples of the sums it makes a row.
    """
    words = listed_words(tower.letters, degree)
    lot = step_lot(tower, degree)
    if len(sums) != len(words) - len(lot) - step_rank(tower, words):
        return None
    for at, a_sum in enumerate(sums):
        row = row_of_sum(words, a_sum)
        row[len(words) + at] = ONE
        take_in(lot, whole_multiple(row))
    # A sum that the other ones and the steps make leaves nothing but marks.
    if any([lead >= len(words) for lead in lot]):
        return None
    return lot


def ratios_in_basis(lot, width, size, row):
    """The ratios by which the sums of a basis lot make a closed row, up to a step.

    There are `width` words and `size` sums.
    """
    marked = {place: number for place, number in row.items()}
    marked[width + size] = ONE
    rest = left_over(lot, whole_multiple(marked))
    return tuple([reduced(-rest.get(width + at, 0), rest[width + size]) for at in range(size)])


def _word_steps(tower, words):
    steps = step_dicts(tower)
    return [step_of_word(tower.letters, steps, word) for word in words]


def _placed_rows(steps, targets):
    places = {word: at for at, word in enumerate(targets)}
    return [{places[word]: number for word, number in step.items()} for step in steps]
