"""Tables of integers: rank, kernel, and papers of what their rows make."""

from stepletters.base.echelon import dense, echelon, kernel_rows, pairing, solved, sparse, turned
from stepletters.base.exact import is_quotient, is_whole, whole_multiple
from stepletters.base.ratios import is_integer
from stepletters.errors import InvalidOperation, InvalidTable

MAX_SIDE = 40


def is_table(value):
    """Whether the value is a tuple of 1 to 40 rows of equally many integers, from 1 to 40."""
    if not _is_side(value) or not _is_side(value[0]):
        return False
    return all([_is_row(row, len(value[0])) for row in value])


def rank(table):
    """The number of independent rows of a table."""
    _check_table(table)
    return len(echelon([sparse(row) for row in table]))


def kernel(table):
    """The echelon of all rows whose pairing with each row of a table is 0."""
    _check_table(table)
    return _kernel_of(table)


def span_paper(table, numbers):
    """A paper that the table's rows make a row of numbers, or that they do not."""
    _check_span(table, numbers)
    equations = turned([sparse(row) for row in table] + [sparse(numbers)])
    ratios = solved(equations, len(table))
    if ratios is not None:
        return ("numbers", tuple(ratios))
    wanted = sparse(numbers)
    tests = [row for row in _kernel_of(table) if pairing(row, wanted) != 0]
    return ("test", tests[0])


def is_span_paper(table, numbers, value):
    """Whether the value is a paper of a table and a row of numbers."""
    _check_span(table, numbers)
    if not isinstance(value, tuple) or len(value) != 2 or not isinstance(value[1], tuple):
        return False
    if value[0] == "numbers":
        return _do_make(table, numbers, value[1])
    if value[0] == "test":
        return _is_test(table, numbers, value[1])
    return False


def _do_make(table, numbers, ratios):
    if len(ratios) != len(table) or not all([is_quotient(ratio) for ratio in ratios]):
        return False
    # A last entry of -1 ties the multiple that is taken to the numbers.
    parts = {at: ratio for at, ratio in enumerate(ratios)}
    parts[len(table)] = (-1, 1)
    factors = whole_multiple(parts)
    rows = table + (numbers,)
    columns = [{at: row[column] for at, row in enumerate(rows)} for column in range(len(numbers))]
    return all([pairing(factors, column) == 0 for column in columns])


def _is_test(table, numbers, integers):
    if len(integers) != len(numbers) or not all([is_whole(number) for number in integers]):
        return False
    if any([pairing(integers, sparse(row)) != 0 for row in table]):
        return False
    return pairing(integers, sparse(numbers)) != 0


def _kernel_of(table):
    width = len(table[0])
    rows = kernel_rows([sparse(row) for row in table], width)
    return tuple([dense(row, width) for row in rows])


def _is_side(value):
    return isinstance(value, tuple) and 1 <= len(value) <= MAX_SIDE


def _is_row(value, width):
    if not isinstance(value, tuple) or len(value) != width:
        return False
    return all([is_integer(number) for number in value])


def _check_table(table):
    if not is_table(table):
        raise InvalidTable("not a table of integers")


def _check_span(table, numbers):
    _check_table(table)
    if not _is_row(numbers, len(table[0])):
        raise InvalidOperation("not an integer for each column of the table")
