"""Towers whose classes end, and papers that they do, or do not."""

from stepletters.base.echelon import dense, independent_places, kernel_rows, pairing
from stepletters.base.exact import ONE, ZERO, is_whole, reduced
from stepletters.classes.classes import MAX_CLASSED, class_basis, class_row
from stepletters.classes.rows import solved_rows, whole_rows
from stepletters.errors import InvalidOperation, Refused, TooMany
from stepletters.plain.ideals import bound_of, even_degrees, first_power, made_rows, odd_degrees, open_degree
from stepletters.plain.ideals import plain_parts, whole_word
from stepletters.towers.towers import check_tower, plain_tower
from stepletters.words.sums import is_sum, made_sum
from stepletters.words.words import check_letters, count_words, even_letters, listed_words, odd_indices, suffix_counts

MAX_EVEN = 120
_MOST_TESTED = 1000


def top_degree(letters):
    """The bound of the letters: the top degree, if classes end."""
    check_letters(letters)
    _check_no_ones(letters)
    return bound_of(letters)


def euler_number(letters):
    """The classes of even degrees less those of odd ones, if classes end, as a ratio."""
    check_letters(letters)
    _check_no_ones(letters)
    evens, odds = even_degrees(letters), odd_degrees(letters)
    if len(odds) > len(evens):
        return ZERO
    if len(odds) < len(evens):
        raise InvalidOperation("classes do not end with fewer odd letters than even ones")
    top = bottom = 1
    for even, odd in zip(evens, odds):
        top = top * (odd + 1)
        bottom = bottom * even
    return reduced(top, bottom)


def does_end(tower):
    """Whether the classes of a tower end."""
    check_even_words(tower)
    bound = bound_of(tower.letters)
    return bound >= 0 and open_degree(even_degrees(tower.letters), plain_parts(tower), bound) is None


def end_paper(tower):
    """A paper that the classes of a tower end, or that they do not."""
    check_even_words(tower)
    bound = bound_of(tower.letters)
    if bound < 0:
        # Of the degree 0 there is the word 1, and no step.
        return ("test", 0, (1,))
    evens, parts = even_degrees(tower.letters), plain_parts(tower)
    degree = open_degree(evens, parts, bound)
    if degree is not None:
        width = count_words(evens, degree)
        tests = kernel_rows(whole_rows(made_rows(evens, parts, degree)[1]), width)
        return ("test", degree, dense(tests[0], width))
    return ("powers", tuple([_power_sum(tower.letters, parts, place, bound) for place in range(len(evens))]))


def is_end_paper(tower, value):
    """Whether the value is a paper that classes end, or that they do not."""
    check_tower(tower)
    _check_no_ones(tower.letters)
    if not isinstance(value, tuple) or len(value) not in (2, 3):
        return False
    if value[0] == "powers" and len(value) == 2:
        return _are_powers(tower, value[1])
    if value[0] == "test" and len(value) == 3:
        return _is_test(tower, value[1], value[2])
    return False


def top_class(tower):
    """A closed sum of the top degree that is no step."""
    _check_end(tower)
    return class_basis(tower, bound_of(tower.letters))[0]


def total_count(tower):
    """The number of all independent classes."""
    _check_end(tower)
    return sum(class_row(tower, bound_of(tower.letters)))


def check_even_words(tower):
    """Raise the errors for what is no tower, or one for which it is not told whether classes end."""
    check_tower(tower)
    _check_no_ones(tower.letters)
    bound = bound_of(tower.letters)
    evens = even_degrees(tower.letters)
    if bound >= 0 and len(evens) > 0:
        counts = suffix_counts(evens, bound + max(evens))[0]
        if any([number > MAX_EVEN for number in counts[bound + 1:]]):
            raise TooMany(MAX_EVEN)


def check_ending(tower):
    """Raise the errors for a tower of which it is not told that classes end."""
    if not does_end(tower):
        raise Refused(("endless",))


def _check_no_ones(letters):
    if 1 in letters:
        raise InvalidOperation("a letter has the degree 1")


def _check_end(tower):
    check_ending(tower)
    if bound_of(tower.letters) > MAX_CLASSED:
        raise TooMany(MAX_CLASSED)


def _power_sum(letters, parts, place, bound):
    """A sum whose step in the plain tower is a power of the even letter at a place."""
    evens = even_degrees(letters)
    many = first_power(evens[place], bound)
    words = listed_words(evens, evens[place] * many)
    products, rows = made_rows(evens, parts, evens[place] * many)
    chosen = independent_places(whole_rows(rows), len(words))
    if len(chosen) < len(words):
        chosen = list(range(len(rows)))
    wanted = {at: ONE for at, word in enumerate(words) if word[place] == many}
    ratios = solved_rows([rows[at] for at in chosen], wanted)
    odds = odd_indices(letters)
    numbers = {}
    for at, ratio in zip(chosen, ratios):
        part, word = products[at]
        numbers[whole_word(letters, word, odds[part])] = ratio
    return made_sum(letters, numbers)


def _are_powers(tower, sums):
    indices = even_letters(tower.letters)
    if not isinstance(sums, tuple) or len(sums) != len(indices):
        return False
    plain = plain_tower(tower)
    return all([_makes_power(plain, index, a_sum) for index, a_sum in zip(indices, sums)])


def _makes_power(plain, index, a_sum):
    """Whether the value is a sum whose step is one word of a letter, times a ratio."""
    if not is_sum(plain.letters, a_sum):
        return False
    words = list(plain.step(a_sum).terms)
    if len(words) != 1:
        return False
    return all([exponent == 0 or at == index for at, exponent in enumerate(words[0])])


def _is_test(tower, degree, integers):
    least = max(bound_of(tower.letters) + 1, 0)
    if not is_whole(degree) or not least <= degree <= _MOST_TESTED:
        return False
    evens = even_degrees(tower.letters)
    width = count_words(evens, degree)
    if width > MAX_EVEN or not isinstance(integers, tuple) or len(integers) != width:
        return False
    if not all([is_whole(number) for number in integers]) or not any([number != 0 for number in integers]):
        return False
    rows = whole_rows(made_rows(evens, plain_parts(tower), degree)[1])
    return all([pairing(integers, row) == 0 for row in rows])
