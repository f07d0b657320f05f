"""Claims: what is claimed of towers under names, and whether it is true."""

from stepletters.base.ratios import is_between, is_integer, is_number
from stepletters.classes.classes import class_count
from stepletters.errors import InvalidOperation, TooMany
from stepletters.plain.ends import does_end
from stepletters.words.sums import MAX_TERMS, Sum, is_terms
from stepletters.words.words import is_letters

_MOST_SIGNS = 8
_MOST_CLASSES = 150


def is_name(value):
    """Whether the value is a string of one to eight characters from a to z."""
    if not isinstance(value, str) or not 1 <= len(value) <= _MOST_SIGNS:
        return False
    return all(["a" <= sign <= "z" for sign in value])


def is_claim(value, most):
    """Whether the value is a claim, true or not, of classes of degrees up to `most`."""
    if not isinstance(value, tuple) or len(value) < 2 or not is_name(value[1]):
        return False
    word, rest = value[0], value[2:]
    if word in ("plain", "ends"):
        return len(rest) == 0
    if word == "classes":
        return len(rest) == 2 and is_between(rest[0], 0, most) and is_between(rest[1], 0, _MOST_CLASSES)
    if len(rest) != 1:
        return False
    if word == "equal":
        return is_name(rest[0])
    if word == "letters":
        return is_letters(rest[0])
    return word == "closed" and _is_told_terms(rest[0])


def names_in(claim):
    """The names in a claim, in their order."""
    return claim[1:] if claim[0] == "equal" else claim[1:2]


def copied(claim):
    """The claim with a dict of its own, ascending, if it has one."""
    if claim[0] != "closed":
        return claim
    terms = claim[2]
    return claim[:2] + ({word: terms[word] for word in sorted(list(terms))},)


def is_true(claim, towers):
    """Whether a claim is true of the towers under names."""
    if any([name not in towers for name in names_in(claim)]):
        return False
    word, tower = claim[0], towers[claim[1]]
    if word == "equal":
        return tower == towers[claim[2]]
    if word == "plain":
        return tower.is_plain
    if word == "letters":
        return tower.letters == claim[2]
    if word == "closed":
        return is_terms(tower.letters, claim[2]) and tower.is_closed(Sum(tower.letters, claim[2]))
    if word == "classes":
        return _has_classes(tower, claim[2], claim[3])
    return _ends(tower)


def _is_told_terms(value):
    if not isinstance(value, dict) or len(value) > MAX_TERMS:
        return False
    for word, number in value.items():
        if not isinstance(word, tuple) or not is_number(number):
            return False
        if not all([is_integer(exponent) and exponent >= 0 for exponent in word]):
            return False
    return True


def _has_classes(tower, degree, number):
    try:
        return class_count(tower, degree) == number
    except TooMany:
        return False


def _ends(tower):
    try:
        return does_end(tower)
    except (InvalidOperation, TooMany):
        return False
