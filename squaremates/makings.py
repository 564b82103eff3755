"""Squares that are made: of fields, by going round, and of two squares each."""

from squaremates.fields import look_at_field, plus, times
from squaremates.squares import MOST


def field_squares(q):
    """The q - 1 squares of the field of q: the one at place m - 1 has m r + c at row r and column c."""
    look_at_field(q)
    return [field_square(q, m) for m in range(1, q)]


def field_square(q, m):
    """The square that has the field's m r + c at row r and column c."""
    starts = [times(q, m, r) for r in range(q)]
    return [[plus(q, start, c) for c in range(q)] for start in starts]


def round_square(n):
    """The square that has the rest of r + c by n at row r and column c."""
    return [[(r + c) % n for c in range(n)] for r in range(n)]


def product(one, other):
    """The square of a b things made of one of a things and another of b things."""
    b = len(other)
    size = len(one) * b
    return [[b * one[r // b][c // b] + other[r % b][c % b] for c in range(size)] for r in range(size)]


def made_set(n):
    """Squares of n things, from 1 to 9, each two of them mates."""
    # Beyond these sizes no set is promised and no refusal is told, so nothing is made.
    if n < 1 or n > MOST:
        return []
    if n == 1:
        return [[[0]]]
    if n == 6:
        return [product(field_square(2, 1), field_square(3, 1))]
    return field_squares(n)
