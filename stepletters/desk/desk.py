"""A desk that keeps towers under names, and claims of them that stay true."""

from stepletters.base.ratios import is_integer
from stepletters.desk.claims import copied, is_claim, is_name, is_true, names_in
from stepletters.errors import InvalidNumber, InvalidOperation, NothingToUndo, Refused, TooMany, UnknownName
from stepletters.towers.towers import beside, check_tower, cut_tower, plain_tower, with_letter

MAX_KEPT = 12
MAX_CLAIMS = 12
MAX_CLAIMED = 20


class Desk:
    """Towers under names, claims under labels, and the deeds that changed them."""

    def __init__(self):
        # What is kept ahead of the first deed and behind each one: pairs of a dict of towers
        # and one of claims. These dicts never change; each deed makes new ones.
        self._moments = [({}, {})]
        self._at = 0

    @property
    def names(self):
        """The names that have a tower, ascending."""
        return tuple(sorted(list(self._moments[self._at][0])))

    @property
    def labels(self):
        """The labels that have a claim, ascending."""
        return tuple(sorted(list(self._moments[self._at][1])))

    @property
    def deeds(self):
        """How many deeds stand."""
        return self._at

    def tower(self, name):
        """The tower under a name."""
        if name not in self:
            raise UnknownName(name)
        return self._moments[self._at][0][name]

    def claimed(self, label):
        """The claim under a label."""
        claims = self._moments[self._at][1]
        if not isinstance(label, str) or label not in claims:
            raise UnknownName(label)
        return copied(claims[label])

    def keep(self, name, tower):
        """Keep a tower under a name, in the place of a former one."""
        _check_name(name)
        check_tower(tower)
        return self._put(name, tower)

    def put_beside(self, name, one, other):
        """Keep two towers beside one another under a name."""
        _check_name(name)
        first, second = self.tower(one), self.tower(other)
        return self._put(name, beside(first, second))

    def make_plain(self, name):
        """Put the plain tower in the place of a tower."""
        return self._put(name, plain_tower(self.tower(name)))

    def grow(self, name, degree, terms):
        """Put a tower with one letter more in the place of a tower."""
        return self._put(name, with_letter(self.tower(name), degree, terms))

    def cut(self, name, many):
        """Put the tower of the first letters in the place of a tower."""
        return self._put(name, cut_tower(self.tower(name), many))

    def drop(self, name):
        """Leave a tower out."""
        if name not in self:
            raise UnknownName(name)
        towers, claims = self._moments[self._at]
        return self._do({other: tower for other, tower in towers.items() if other != name}, claims)

    def claim(self, label, claim):
        """Claim something further of towers."""
        if not is_name(label):
            raise InvalidOperation("not one to eight characters from a to z")
        if not is_claim(claim, MAX_CLAIMED):
            raise InvalidOperation("not a claim")
        towers, claims = self._moments[self._at]
        if label in claims:
            raise Refused(("label", label))
        if len(claims) == MAX_CLAIMS:
            raise TooMany(MAX_CLAIMS)
        for name in names_in(claim):
            if name not in towers:
                raise UnknownName(name)
        return self._do(towers, {**claims, label: copied(claim)})

    def let_go(self, label):
        """Leave a claim out."""
        towers, claims = self._moments[self._at]
        if not isinstance(label, str) or label not in claims:
            raise UnknownName(label)
        return self._do(towers, {other: claim for other, claim in claims.items() if other != label})

    def undo(self, *, times=1):
        """Take back the last deeds."""
        _check_times(times, self._at)
        self._at = self._at - times
        return self._at

    def redo(self, *, times=1):
        """Do deeds again that were taken back."""
        _check_times(times, len(self._moments) - 1 - self._at)
        self._at = self._at + times
        return self._at

    def during(self, call):
        """What a call returns that is passed the desk; behind it all is as it was ahead."""
        moments, at = list(self._moments), self._at
        try:
            return call(self)
        finally:
            self._moments, self._at = moments, at

    def twin(self):
        """An equal desk with the same deeds that goes on by itself."""
        made = Desk()
        made._moments = list(self._moments)
        made._at = self._at
        return made

    def __contains__(self, x):
        return isinstance(x, str) and x in self._moments[self._at][0]

    def __len__(self):
        return len(self._moments[self._at][0])

    def __eq__(self, other):
        return isinstance(other, Desk) and self._moments[self._at] == other._moments[other._at]

    def __str__(self):
        towers, claims = self._moments[self._at]
        return f"desk of {len(towers)} towers, {len(claims)} claims"

    def _put(self, name, tower):
        """Do the deed that puts a tower under a name."""
        towers, claims = self._moments[self._at]
        if name not in towers and len(towers) == MAX_KEPT:
            raise TooMany(MAX_KEPT)
        return self._do({**towers, name: tower}, claims)

    def _do(self, towers, claims):
        """Keep what a deed makes of towers and claims, if all claims are true of it."""
        before, known = self._moments[self._at]
        for label in sorted(list(claims)):
            names = names_in(claims[label])
            # What was true of the same towers is true still.
            stays = label in known and all([before.get(name) == towers.get(name) for name in names])
            if not stays and not is_true(claims[label], towers):
                raise Refused(("claim", label))
        self._moments = self._moments[:self._at + 1] + [(towers, claims)]
        self._at = len(self._moments) - 1
        return self._at


def _check_name(name):
    if not is_name(name):
        raise InvalidOperation("not one to eight characters from a to z")


def _check_times(times, most):
    if not is_integer(times) or times < 0:
        raise InvalidNumber(times)
    if times > most:
        raise NothingToUndo(times)
