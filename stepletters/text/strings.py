"""Texts: strings that tell letters, integers, ratios, sums, towers and algebras."""

from stepletters.algebras.algebras import MAX_UNIT_DEGREE, MAX_UNITS, Algebra
from stepletters.base.exact import is_quotient, is_whole, quotient_text
from stepletters.base.ratios import is_integer
from stepletters.errors import InvalidAlgebra, InvalidOperation, InvalidSum, InvalidTower, ParseError, TooMany
from stepletters.errors import UnknownName
from stepletters.text.parts import blocks_at, end_at, integers_at, ratio_at, terms_at
from stepletters.towers.towers import Tower
from stepletters.words.sums import MAX_TERMS, Sum
from stepletters.words.words import MAX_LETTER, MAX_LETTERS, is_letters, is_passed_word

MAX_TEXT = 20000
MAX_INTEGERS = 400
KINDS = ("letters", "integers", "ratio", "sum", "tower", "algebra")
_MOST_DIGITS = 60
_LEAST_UNIT = 2


def write_value(value, *, kind):
    """The text of a value of a kind."""
    if kind not in KINDS:
        raise UnknownName(kind)
    if not _is_of_kind(value, kind):
        raise InvalidOperation("the value is not of the kind")
    rows = _rows_of(value, kind)
    if any([len(terms) > MAX_TERMS for _, terms in rows]):
        raise TooMany(MAX_TERMS)
    numbers = _numbers_of(value, kind)
    ratios = numbers + [ratio for _, terms in rows for ratio in terms.values()]
    if not all([is_integer(top) and is_integer(bottom) for top, bottom in ratios]):
        raise TooMany(_MOST_DIGITS)
    parts = [kind] + [quotient_text(ratio) for ratio in numbers]
    text = " ".join(parts + [part for head, terms in rows for part in _row_parts(head, terms)])
    if len(text) > MAX_TEXT:
        raise TooMany(MAX_TEXT)
    return text


def kind_of_text(text):
    """The kind of the value that a text tells."""
    return _read(text)[0]


def read_value(text):
    """The value that a text tells."""
    return _read(text)[1]


def is_text(value):
    """Whether the value is a text."""
    try:
        _read(value)
    except ParseError:
        return False
    return True


def _is_of_kind(value, kind):
    if kind == "letters":
        return is_letters(value)
    if kind == "integers":
        return isinstance(value, tuple) and len(value) <= MAX_INTEGERS and all([is_whole(part) for part in value])
    if kind == "ratio":
        return is_quotient(value)
    if kind == "sum":
        # Sums that are made of others can have words that no text tells, since none are passed.
        return isinstance(value, Sum) and all([is_passed_word(value.letters, word) for word in value.terms])
    if kind == "tower":
        return isinstance(value, Tower)
    return isinstance(value, Algebra)


def _numbers_of(value, kind):
    """The ratios that stand in parts of their own right behind the kind."""
    if kind == "ratio":
        return [value]
    if kind in ("letters", "integers"):
        return [(number, 1) for number in value]
    return [(degree, 1) for degree in (value.degrees if kind == "algebra" else value.letters)]


def _rows_of(value, kind):
    """What stands behind these: pairs of the integers ahead of some terms, and these terms."""
    if kind == "sum":
        return [((), value.terms)]
    if kind == "tower":
        return [((index,), step.terms) for index, step in enumerate(value.steps) if len(step) > 0]
    if kind == "algebra":
        return [(pair, {(unit,): made[unit] for unit in made}) for pair, made in value.products.items()]
    return []


def _row_parts(head, terms):
    parts = ["|"] if len(head) > 0 else []
    parts = parts + [str(index) for index in head]
    for key, ratio in terms.items():
        parts = parts + [";", quotient_text(ratio), ":"] + [str(number) for number in key]
    return parts


def _read(text):
    """The kind of a text and the value that it tells."""
    if not isinstance(text, str) or len(text) > MAX_TEXT:
        raise ParseError(0)
    parts = text.split(" ")
    kind = parts[0]
    if kind not in KINDS:
        raise ParseError(0)
    if kind == "sum":
        value = _read_sum(parts)
    elif kind == "tower":
        value = _read_tower(parts)
    elif kind == "algebra":
        value = _read_algebra(parts)
    else:
        value = _read_numbers(kind, parts)
    # Where each part can stand at its place but they tell no value, the spot is behind them all.
    if value is None:
        raise ParseError(len(parts))
    return kind, value


def _read_numbers(kind, parts):
    if kind == "ratio":
        value = ratio_at(parts, 1)
        end_at(parts, 2)
        return value
    if kind == "letters":
        numbers, at = integers_at(parts, 1, MAX_LETTERS, 1, MAX_LETTER)
    else:
        numbers, at = integers_at(parts, 1, MAX_INTEGERS, None, None)
    end_at(parts, at)
    return tuple(numbers)


def _read_sum(parts):
    """The sum that the parts tell, None if they tell none."""
    letters, at = integers_at(parts, 1, MAX_LETTERS, 1, MAX_LETTER)
    rows, at = terms_at(parts, at, _most_exponents(letters))
    end_at(parts, at)
    if not _do_ascend(rows):
        return None
    try:
        return Sum(tuple(letters), {word: ratio for word, ratio in rows})
    except InvalidSum:
        return None


def _read_tower(parts):
    """The tower that the parts tell, None if they tell none."""
    letters, at = integers_at(parts, 1, MAX_LETTERS, 1, MAX_LETTER)
    blocks = blocks_at(parts, at, 1, len(letters), _most_exponents(letters))
    if not _do_all_ascend(blocks):
        return None
    steps = [{} for _ in letters]
    for head, rows in blocks:
        steps[head[0]] = {word: ratio for word, ratio in rows}
    try:
        return Tower(tuple(letters), tuple(steps))
    except InvalidTower:
        return None


def _read_algebra(parts):
    """The algebra that the parts tell, None if they tell none."""
    degrees, at = integers_at(parts, 1, MAX_UNITS, _LEAST_UNIT, MAX_UNIT_DEGREE)
    blocks = blocks_at(parts, at, 2, len(degrees), [len(degrees) - 1])
    if not _do_all_ascend(blocks):
        return None
    products = {pair: {key[0]: ratio for key, ratio in rows} for pair, rows in blocks}
    try:
        return Algebra(tuple(degrees), products)
    except InvalidAlgebra:
        return None


def _most_exponents(letters):
    return [1 if degree % 2 == 1 else None for degree in letters]


def _do_all_ascend(blocks):
    return _do_ascend(blocks) and all([_do_ascend(rows) for _, rows in blocks])


def _do_ascend(rows):
    keys = [row[0] for row in rows]
    return all([one < other for one, other in zip(keys, keys[1:])])
