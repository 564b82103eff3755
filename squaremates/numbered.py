"""All squares of a size, in order, numbered by how many go on row by row."""

from squaremates.errors import NoNumber
from squaremates.squares import MOST, is_order

# Columns are told here as lists of tuples, one for each column: the things, rising, that it does not have yet.


def whole_columns(n):
    """The columns of n things ahead of the first row."""
    return [tuple(range(n)) for c in range(n)]


def next_rows(columns):
    """All rows, rising, that have a thing of each column, none twice."""
    found = [[]]
    for things in columns:
        found = [[*begun, thing] for begun in found for thing in things if thing not in begun]
    return found


def columns_below(columns, row):
    """The columns behind one more row."""
    return [tuple([thing for thing in things if thing != own]) for things, own in zip(columns, row)]


def many_on(columns, known):
    """How many squares go on from these columns; what is reckoned is put into known."""
    if not columns[0]:
        return 1
    # The columns in another order go on in as many ways, so that one reckoning does for all of them.
    key = tuple(sorted(columns))
    if key not in known:
        known[key] = sum([many_on(columns_below(columns, row), known) for row in next_rows(columns)])
    return known[key]


def can_stand(n, rows):
    """Whether the rows have n things each, none twice in a row or column."""
    if n < 1 or n > MOST or not all(is_order(n, row) for row in rows):
        return False
    return all(len({row[c] for row in rows}) == len(rows) for c in range(n))


def going_on(n, rows):
    """How many squares of n things have these rows as their first ones."""
    if not can_stand(n, rows):
        return 0
    columns = whole_columns(n)
    for row in rows:
        columns = columns_below(columns, row)
    return many_on(columns, {})


def count(n):
    """How many squares of n things there are."""
    return going_on(n, [])


def first_count(n):
    """How many squares of n things have 0, 1 .. n - 1 as their first row and their first column."""
    renamings = 1
    for k in range(1, min(n, MOST)):
        renamings *= k * (k + 1)
    return count(n) // renamings


def number_of(square):
    """The number of the square among all of its size."""
    columns, known = whole_columns(len(square)), {}
    number = 0
    for row in square:
        ahead = [other for other in next_rows(columns) if other < row]
        number += sum([many_on(columns_below(columns, other), known) for other in ahead])
        columns = columns_below(columns, row)
    return number


def square_at(n, number):
    """The square of n things that has the number."""
    if number < 0 or not can_stand(n, []):
        raise NoNumber("there is no square of this number")
    columns, known = whole_columns(n), {}
    square = []
    rest = number
    for r in range(n):
        row, rest = row_at(columns, rest, known)
        columns = columns_below(columns, row)
        square.append(row)
    return square


def row_at(columns, number, known):
    """The next row of the square that has this number among those that go on, and its number among those with it."""
    rest = number
    for row in next_rows(columns):
        many = many_on(columns_below(columns, row), known)
        if rest < many:
            return row, rest
        rest -= many
    raise NoNumber("so many squares do not go on")


def behind(square):
    """The square behind this one in order, or None."""
    try:
        return square_at(len(square), number_of(square) + 1)
    except NoNumber:
        return None
