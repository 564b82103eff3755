"""Triples of numbers, any two of which stand together in just one, and the squares that they are."""

from squaremates.errors import NoNumber
from squaremates.exchanges import rising_pairs
from squaremates.makings import field_squares
from squaremates.planes import plane_of
from squaremates.squares import MOST, TURNINGS, square_of_cells, turned

SEVEN = (0, 1, 3)


def is_triples(n, triples):
    """Whether the tuples are triples of n: rising ones, in order, with any two numbers in just one."""
    if n < 1 or n > MOST or triples != sorted(triples):
        return False
    # Where all three pairs of a tuple are rising ones, so is the tuple.
    pairs = [pair for a, b, c in triples for pair in ((a, b), (a, c), (b, c))]
    return sorted(pairs) == rising_pairs(n)


def square_of_triples(n, triples):
    """The square that has a at row and column a, and at a and b the third number of the triple of both."""
    places = [(a, a, a) for a in range(n)]
    for a, b, c in triples:
        places += [(a, b, c), (a, c, b), (b, a, c), (b, c, a), (c, a, b), (c, b, a)]
    return square_of_cells(n, places)


def triples_of(square):
    """The triples of which the square comes, or None."""
    n = len(square)
    if any(square[a][a] != a for a in range(n)) or any(turned(square, turning) != square for turning in TURNINGS):
        return None
    return [(a, b, square[a][b]) for a, b in rising_pairs(n) if b < square[a][b]]


def made_triples(n):
    """The made triples of 1, 3, 7 or 9 numbers."""
    if n == 1:
        return []
    if n == 3:
        return [(0, 1, 2)]
    if n == 7:
        return sorted([tuple(sorted([(k + put) % 7 for k in SEVEN])) for put in range(7)])
    if n == 9:
        return triples_of_nine()
    raise NoNumber("triples are made for 1, 3, 7 and 9")


def triples_of_nine():
    """The triples of the nine points that stand together in a line of the plane of three."""
    # Each line has three of the nine, but the far one, which has none of them.
    lines = [[point for point in line if point < 9] for line in plane_of(field_squares(3))]
    return sorted([tuple(line) for line in lines if line])
