"""Towers: letters, each with a step in the letters ahead of it."""

from stepletters.base.ratios import as_ratio, check_between
from stepletters.errors import InvalidOperation, InvalidSum, InvalidTower, TooMany
from stepletters.towers.steps import step_of_numbers
from stepletters.words.sums import Sum, ascending, check_sum, is_terms, made_sum
from stepletters.words.words import MAX_LETTER, MAX_LETTERS, check_letters, degree_of, length_of, odd_indices


class Tower:
    """Letters with their steps, of which the steps are 0."""

    def __init__(self, letters, steps):
        if tower_fault(letters, steps) is not None:
            raise InvalidTower("the steps have a fault")
        self._letters = letters
        self._steps = tuple([Sum(letters, terms) for terms in steps])

    @property
    def letters(self):
        """The degrees of the letters."""
        return self._letters

    @property
    def steps(self):
        """The tuple of the steps of the letters."""
        return self._steps

    @property
    def size(self):
        """The number of the letters."""
        return len(self._letters)

    @property
    def is_plain(self):
        """Whether the tower is its own plain tower."""
        return self._steps == _plain_steps(self._letters, self._steps)

    def step(self, a_sum):
        """The step of a sum."""
        check_sum(self._letters, a_sum)
        return made_sum(self._letters, step_of_numbers(self._letters, step_dicts(self), a_sum.terms))

    def is_closed(self, a_sum):
        """Whether the step of a sum is 0."""
        return len(self.step(a_sum)) == 0

    def letter_sum(self, index):
        """A letter as a sum."""
        return Sum.letter(self._letters, index)

    def __eq__(self, other):
        return isinstance(other, Tower) and self._letters == other._letters and self._steps == other._steps

    def __len__(self):
        return len(self._letters)

    def __str__(self):
        if len(self._letters) == 0:
            return "tower of 0 letters"
        return f"tower of {len(self._letters)} letters to the degree {max(self._letters)}"


def tower_fault(letters, steps):
    """The first fault of steps, None if there is none."""
    check_letters(letters)
    if not _is_steps(letters, steps):
        raise InvalidTower("not a dict of terms for each letter")
    numbers = [ascending({word: as_ratio(number) for word, number in terms.items()}) for terms in steps]
    for index in range(len(letters)):
        fault = _letter_fault(letters, numbers[index], index)
        if fault is not None:
            return (fault, index)
    for index in range(len(letters)):
        if len(step_of_numbers(letters, numbers, numbers[index])) > 0:
            return ("twice", index)
    return None


def beside(one, other):
    """The tower with the letters of one tower, then those of another one."""
    check_tower(one)
    check_tower(other)
    letters = one.letters + other.letters
    if len(letters) > MAX_LETTERS:
        raise TooMany(MAX_LETTERS)
    first = [{word + (0,) * other.size: number for word, number in step} for step in one.steps]
    second = [{(0,) * one.size + word: number for word, number in step} for step in other.steps]
    return made_tower(letters, first + second)


def cut_tower(tower, many):
    """The tower of the first letters, `many` of them."""
    check_tower(tower)
    check_between(many, 0, tower.size)
    kept = [{word[:many]: number for word, number in step} for step in tower.steps[:many]]
    return made_tower(tower.letters[:many], kept)


def with_letter(tower, degree, terms):
    """The tower with one letter more, `terms` being its step in the other letters."""
    check_tower(tower)
    check_between(degree, 1, MAX_LETTER)
    if not is_terms(tower.letters, terms):
        raise InvalidSum("not a dict of at most 400 words of the tower's letters with numbers")
    if tower.size == MAX_LETTERS:
        raise TooMany(MAX_LETTERS)
    letters = tower.letters + (degree,)
    steps = [{word + (0,): number for word, number in step} for step in tower.steps]
    last = ascending({word + (0,): as_ratio(number) for word, number in terms.items()})
    if _letter_fault(letters, last, tower.size) is not None:
        raise InvalidOperation("a word of the step has a wrong degree or length")
    if len(step_of_numbers(letters, steps + [last], last)) > 0:
        raise InvalidOperation("the step of the step is not 0")
    return made_tower(letters, steps + [last])


def plain_tower(tower):
    """The plain tower of a tower."""
    check_tower(tower)
    return made_tower(tower.letters, [step.terms for step in _plain_steps(tower.letters, tower.steps)])


def quadratic_tower(tower):
    """The tower with the words of the length 2 alone in its steps."""
    check_tower(tower)
    kept = [{word: number for word, number in step if length_of(word) == 2} for step in tower.steps]
    return made_tower(tower.letters, kept)


def check_tower(tower):
    """Raise the error for a value that is no tower."""
    if not isinstance(tower, Tower):
        raise InvalidTower("not a tower")


def made_tower(letters, steps):
    """The tower of right letters and steps without a fault, dicts of ratios of any size."""
    made = Tower((), ())
    made._letters = letters
    made._steps = tuple([made_sum(letters, numbers) for numbers in steps])
    return made


def step_dicts(tower):
    """The steps of the letters of a tower as dicts from words to ratios."""
    return [step.terms for step in tower.steps]


def _is_steps(letters, value):
    if not isinstance(value, tuple) or len(value) != len(letters):
        return False
    return all([is_terms(letters, terms) for terms in value])


def _letter_fault(letters, numbers, index):
    if any([degree_of(letters, word) != letters[index] + 1 for word in numbers]):
        return "degree"
    if any([length_of(word[index:]) > 0 for word in numbers]):
        return "ahead"
    if any([length_of(word) < 2 for word in numbers]):
        return "length"
    return None


def _plain_steps(letters, steps):
    # The step of an even letter has an odd degree, and so an odd letter in each word.
    odds = odd_indices(letters)
    kept = [{word: number for word, number in step if _is_even_word(odds, word)} for step in steps]
    return tuple([made_sum(letters, numbers) for numbers in kept])


def _is_even_word(odds, word):
    return all([word[index] == 0 for index in odds])
