"""Orders of rests: spread orders, their squares, and partings by shifted ways."""

from squaremates.mates import mate_of, ways_apart_at
from squaremates.squares import is_order, turned
from squaremates.ways import ways


def differences(n, order):
    """The rests by n of each number less the one ahead of it."""
    # Nothing leaves a rest by 0, and a number below 0 is no count of rests.
    if n < 1:
        return []
    return [(number - ahead) % n for ahead, number in zip(order, order[1:])]


def all_unlike(values):
    """Whether no value comes twice."""
    return len(set(values)) == len(values)


def is_spread(n, order):
    """Whether the list is an order of n whose differences are all unlike."""
    # The length goes first: the numbers 0 .. n - 1 of a great n are too many to be written down.
    return len(order) == n and is_order(n, order) and all_unlike(differences(n, order))


def zigzag(n):
    """The order 0, n - 1, 1, n - 2 .. of n numbers."""
    return [k // 2 if k % 2 == 0 else n - 1 - k // 2 for k in range(n)]


def spread_orders(n):
    """All spread orders for n that begin with 0, in order."""
    found = [([0], [])] if n > 0 else []
    for length in range(1, n):
        found = [
            ([*begun, k], [*used, (k - begun[-1]) % n])
            for begun, used in found
            for k in range(n)
            if k not in begun and (k - begun[-1]) % n not in used
        ]
    return [order for order, used in found]


def spread_square(n, order):
    """The square that has at r and c the rest by n of the sum of the order's r-th and c-th number."""
    return [[(one + other) % n for other in order] for one in order]


def neighbourly(square):
    """Whether no two things stand side by side, in this order, twice: in rows, and in columns."""
    return neighbourly_in_rows(square), neighbourly_in_rows(turned(square, "crt"))


def neighbourly_in_rows(square):
    """Whether no two things stand side by side in a row, in this order, twice."""
    return all_unlike([pair for row in square for pair in zip(row, row[1:])])


def shifted(way):
    """The lists that come of the way when 0, 1 .. n - 1 is added to each column."""
    n = len(way)
    return [[(c + more) % n for c in way] for more in range(n)]


def all_mates(square):
    """All mates of the square whose first row is 0, 1 .. n - 1, in order."""
    return sorted([mate_of(parting) for parting in all_partings(len(square), ways(square), [])])


def all_partings(n, known, chosen):
    """All partings that begin with the chosen ways and go through the first row in order."""
    if len(chosen) == n:
        return [chosen]
    nexts = ways_apart_at(known, chosen, (0, len(chosen)))
    return [parting for way in nexts for parting in all_partings(n, known, [*chosen, way])]
