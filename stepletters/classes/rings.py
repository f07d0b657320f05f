"""Products of classes: their coordinates, pairings, and how long products can be."""

from stepletters.base.echelon import echelon, left_over, pairing, sparse, take_in
from stepletters.base.exact import whole_multiple
from stepletters.base.ratios import check_between
from stepletters.classes.classes import MAX_CLASSED, MAX_LISTED, class_basis, class_paper
from stepletters.classes.rows import basis_lot, check_listed, is_closed_level, ratios_in_basis, row_of_sum
from stepletters.classes.rows import step_lot, sum_of_row
from stepletters.errors import InvalidOperation, TooMany
from stepletters.towers.towers import check_tower
from stepletters.words.sums import check_sum
from stepletters.words.words import joined_words, listed_words, odd_indices

MAX_FACTORS = 12
MAX_FACTORED = 24
_MAX_SUMS = 40


def class_products(tower, first, second, basis):
    """For each sum of `first` and each one of `second` the coordinates of their product."""
    check_tower(tower)
    _check_sums(tower, first, 1)
    _check_sums(tower, second, 1)
    _check_sums(tower, basis, 0)
    degree = first[0].degree + second[0].degree
    if len(basis) > 0 and basis[0].degree != degree:
        raise InvalidOperation("the basis does not have the degree of the products")
    if degree > MAX_CLASSED:
        raise TooMany(MAX_CLASSED)
    _check_listed_to(tower, degree)
    lot = basis_lot(tower, degree, basis)
    if lot is None:
        raise InvalidOperation("the sums are no class basis")
    words = listed_words(tower.letters, degree)
    found = []
    for one in first:
        rows = [row_of_sum(words, one * other) for other in second]
        found.append(tuple([ratios_in_basis(lot, len(words), len(basis), row) for row in rows]))
    return tuple(found)


def pairing_rank(tower, degree, top):
    """The rank of the products of classes of a degree and those that it lacks to the top."""
    check_tower(tower)
    check_between(degree, 0, MAX_CLASSED)
    check_between(top, 0, MAX_CLASSED)
    if degree > top:
        raise InvalidOperation("the degree is above the top")
    _check_listed_to(tower, top)
    basis = class_basis(tower, top)
    if len(basis) != 1:
        raise InvalidOperation("the top does not have just one class")
    values = class_paper(tower, basis[0])[1]
    table = _word_table(tower.letters, degree, top, values)
    words, others = [listed_words(tower.letters, at) for at in (degree, top - degree)]
    second = [whole_multiple(row_of_sum(others, other)) for other in class_basis(tower, top - degree)]
    rows = []
    for a_sum in class_basis(tower, degree):
        one = whole_multiple(row_of_sum(words, a_sum))
        told = [pairing(column, one) for column in table]
        rows.append(sparse([pairing(told, other) for other in second]))
    return len(echelon(rows))


def product_count(tower, many, degree):
    """The dimension of the `many`-fold products of a degree."""
    check_tower(tower)
    check_between(many, 1, MAX_FACTORS)
    check_between(degree, 0, MAX_FACTORED)
    _check_listed_to(tower, degree)
    return len(_products(tower, many, degree)[degree])


def is_product(tower, many, a_sum):
    """Whether the class of a closed level sum is a `many`-fold product."""
    check_tower(tower)
    check_between(many, 1, MAX_FACTORS)
    check_sum(tower.letters, a_sum)
    if len(a_sum) == 0:
        return True
    if not is_closed_level(tower, a_sum):
        raise InvalidOperation("the sum is not closed or not level")
    degree = a_sum.degree
    if degree > MAX_FACTORED:
        raise InvalidOperation("the degree of the sum is above 24")
    _check_listed_to(tower, degree)
    words = listed_words(tower.letters, degree)
    lot = step_lot(tower, degree)
    for product in _products(tower, many, degree)[degree]:
        take_in(lot, whole_multiple(row_of_sum(words, product)))
    return len(left_over(lot, whole_multiple(row_of_sum(words, a_sum)))) == 0


def cup_length(tower, most):
    """The greatest number of factors of a product that is not 0, of a degree up to `most`."""
    check_tower(tower)
    check_between(most, 0, MAX_FACTORED)
    _check_listed_to(tower, most)
    frames = _frames(tower, most)
    first = _first_layer(tower, most)
    makers, layer = _second_layer(tower, frames, first)
    length = 1 if _has_sums(first) else 0
    while _has_sums(layer):
        length += 1
        layer = _next_layer(tower, frames, makers, layer)
    return length


def independent_products(tower, frame, pairs, most):
    """Independent ones among the products of pairs, at most so many, and a lot with them.

    `frame` are the words of their degree and a lot of its steps, up to which they are independent.
    """
    words, steps = frame
    lot = {lead: row for lead, row in steps.items()}
    found = []
    for one, other in pairs:
        if len(found) == most:
            break
        rest = left_over(lot, whole_multiple(row_of_sum(words, one * other)))
        if len(rest) > 0:
            take_in(lot, rest)
            found.append(sum_of_row(tower.letters, words, rest))
    return found, lot


def _check_sums(tower, sums, least):
    if not isinstance(sums, tuple) or not least <= len(sums) <= _MAX_SUMS:
        raise InvalidOperation("not a tuple of so many sums")
    if not all([is_closed_level(tower, a_sum) for a_sum in sums]):
        raise InvalidOperation("not closed level sums other than 0 in the letters of the tower")
    if any([a_sum.degree != sums[0].degree for a_sum in sums]):
        raise InvalidOperation("the sums have several degrees")


def _check_listed_to(tower, degree):
    check_listed(tower.letters, list(range(degree + 2)), MAX_LISTED)


def _word_table(letters, degree, top, values):
    """For each word that the degree lacks to the top the values of its products with words of the degree.

    `values` are those of the words of the top.
    """
    odds = odd_indices(letters)
    places = {word: at for at, word in enumerate(listed_words(letters, top))}
    words = listed_words(letters, degree)
    found = []
    for other in listed_words(letters, top - degree):
        column = []
        for word in words:
            joined = joined_words(odds, word, other)
            column.append(0 if joined is None else joined[0] * values[places[joined[1]]])
        found.append(column)
    return found


def _frames(tower, most):
    """For each degree its words and a lot of the steps."""
    return [(listed_words(tower.letters, degree), step_lot(tower, degree)) for degree in range(most + 1)]


def _products(tower, many, most):
    """For each degree independent sums of the `many`-fold products."""
    first = _first_layer(tower, most)
    if many == 1:
        return first
    frames = _frames(tower, most)
    makers, layer = _second_layer(tower, frames, first)
    for _ in range(many - 2):
        layer = _next_layer(tower, frames, makers, layer)
    return layer


def _first_layer(tower, most):
    """For each degree above 0 a class basis; none for 0, whose classes are no products."""
    return [()] + [class_basis(tower, degree) for degree in range(1, most + 1)]


def _second_layer(tower, frames, first):
    """For each degree sums that are needed to make all classes, and the twofold products."""
    makers, layer = [], []
    for degree, frame in enumerate(frames):
        found, lot = independent_products(tower, frame, _pairs(makers, first, degree), len(first[degree]))
        layer.append(found)
        own = []
        for a_sum in first[degree]:
            if take_in(lot, whole_multiple(row_of_sum(frame[0], a_sum))):
                own.append(a_sum)
        makers.append(own)
    return makers, layer


def _next_layer(tower, frames, makers, layer):
    """The products with one factor more than those of a layer."""
    # Each class is a sum of a maker and of twofold products, so products of a maker and
    # of one of the layer are enough; and they are among those of the layer.
    found = []
    for degree, frame in enumerate(frames):
        found.append(independent_products(tower, frame, _pairs(makers, layer, degree), len(layer[degree]))[0])
    return found


def _pairs(makers, layer, degree):
    return [(one, other) for at in range(1, degree) for one in makers[at] for other in layer[degree - at]]


def _has_sums(layer):
    return any([len(sums) > 0 for sums in layer])
