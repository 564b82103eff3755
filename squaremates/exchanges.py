"""Parts of squares exchanged: rings, fours, the parts between two squares, and rows of exchanges."""

from squaremates.errors import NoRing
from squaremates.squares import turned

# For each sort the turning that makes rows of its numbers; each of these turns back by itself.
SORTS = {"r": "rct", "c": "crt", "t": "tcr"}


def rings(square, sort, i, k):
    """The rings of two rows, columns or things: rising lists, by their least numbers."""
    look_at_pair(square, sort, i, k)
    return row_rings(turned(square, SORTS[sort]), i, k)


def look_at_pair(square, sort, i, k):
    """Refuse, with NoRing, a sort that is none, and numbers that are not two rising ones of the square."""
    if sort not in SORTS:
        raise NoRing("a sort is r, c or t")
    if not 0 <= i < k < len(square):
        raise NoRing("a ring has two rising numbers of the square")


def row_rings(square, i, k):
    """The rings of the rows i and k."""
    found = []
    for start in range(len(square)):
        if not any(start in ring for ring in found):
            found.append(ring_from(square[i], square[k], start))
    return found


def ring_from(upper, lower, start):
    """The columns, rising, of the ring of two rows in which the column start stands."""
    ring = [start]
    column = upper.index(lower[start])
    while column != start:
        ring.append(column)
        column = upper.index(lower[column])
    return sorted(ring)


def exchanged(square, sort, i, k, ring):
    """The square with what the two rows, columns or things have in the ring exchanged."""
    if ring not in rings(square, sort, i, k):
        raise NoRing("the list is none of these rings")
    laid = exchanged_rows(turned(square, SORTS[sort]), i, k, ring)
    return turned(laid, SORTS[sort])


def exchanged_rows(square, i, k, ring):
    """The square with what the rows i and k have in the columns of the ring exchanged."""
    changed = [list(row) for row in square]
    for c in ring:
        changed[i][c], changed[k][c] = square[k][c], square[i][c]
    return changed


def rising_pairs(n):
    """The tuples of two numbers from 0 to n - 1, the first less than the second, rising."""
    return [(low, high) for low in range(n) for high in range(low + 1, n)]


def fours(square):
    """The tuples (i, k, j, l) of rows i, k and columns j, l whose four cells have just two things, rising."""
    pairs = rising_pairs(len(square))
    return [
        (i, k, j, l)
        for i, k in pairs
        for j, l in pairs
        if square[i][j] == square[k][l] and square[i][l] == square[k][j]
    ]


def parts(one, other):
    """The parts between two squares of one size: rising lists of tuples, by their first ones."""
    found = []
    for r, row in enumerate(one):
        for c, thing in enumerate(row):
            if thing != other[r][c] and not any((r, c) in part for part in found):
                found.append(part_from(one, other, (r, c)))
    return found


def part_from(one, other, start):
    """The part, rising, in which the place start stands."""
    part = [start]
    done = 0
    # What the one has at a place the other must have in the same row, and in the same column, of the part.
    # Going from place to place so comes round, hence these steps alone lead through the whole part.
    while done < len(part):
        r, c = part[done]
        by_row = (r, other[r].index(one[r][c]))
        by_column = ([row[c] for row in other].index(one[r][c]), c)
        for place in (by_row, by_column):
            if place not in part:
                part.append(place)
        done += 1
    return sorted(part)


def put_part(one, other, part):
    """The one square with what the other has in the part."""
    changed = [list(row) for row in one]
    for r, c in part:
        changed[r][c] = other[r][c]
    return changed


def exchanges(one, other):
    """As few exchanges (sort, i, k, ring) as can be that lead from the one square to the other."""
    reached = {key_of(one): []}
    level = [one]
    while key_of(other) not in reached:
        level = gone_on(reached, level)
    return reached[key_of(other)]


def key_of(square):
    """The square as a tuple, for use as a key."""
    return tuple([tuple(row) for row in square])


def gone_on(reached, level):
    """The squares first reached by one exchange more, which are put, with how, into reached."""
    found = []
    for square in level:
        steps = reached[key_of(square)]
        for step, there in exchanges_of(square):
            key = key_of(there)
            if key not in reached:
                reached[key] = [*steps, step]
                found.append(there)
    return found


def exchanges_of(square):
    """Each exchange of the square, in a tuple with the square to which it leads."""
    found = []
    for sort in SORTS:
        laid = turned(square, SORTS[sort])
        for i, k in rising_pairs(len(square)):
            for ring in row_rings(laid, i, k):
                there = turned(exchanged_rows(laid, i, k, ring), SORTS[sort])
                found.append(((sort, i, k, ring), there))
    return found
