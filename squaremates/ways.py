"""Ways through squares."""

from squaremates.squares import is_order


def is_way(square, way):
    """Whether the list has one column for each row, none twice, with all things unlike."""
    n = len(square)
    return is_order(n, way) and len({row[c] for row, c in zip(square, way)}) == n


def ways_among(square, choices):
    """All ways, rising, whose column of each row is one of the row's choices, each of them a rising list."""
    begun = [([], [])]
    for row, columns in zip(square, choices):
        begun = [
            ([*way, c], [*things, row[c]])
            for way, things in begun
            for c in columns
            if c not in way and row[c] not in things
        ]
    return [way for way, things in begun]


def ways(square):
    """All ways of the square, rising."""
    columns = list(range(len(square)))
    return ways_among(square, [columns for row in square])


def columns_through(n, told):
    """The columns that a way can have in a row of which these columns, perhaps some alike, are told."""
    unlike = sorted(set(told))
    if not unlike:
        return list(range(n))
    return unlike if len(unlike) == 1 else []


def first_way(square, cells):
    """The first way through the told cells (row, column), or None."""
    n = len(square)
    choices = [columns_through(n, [c for row, c in cells if row == r]) for r in range(n)]
    found = ways_among(square, choices)
    return found[0] if found else None


def through(square):
    """For each row a list of how many ways go through each of its cells."""
    known = ways(square)
    n = len(square)
    return [[[way[r] for way in known].count(c) for c in range(n)] for r in range(n)]


def apart(one, other):
    """Whether two ways have no cell in common."""
    return all(c != column for c, column in zip(one, other))


def full_cells(square, places):
    """The tuples (row, column, thing) for these tuples (row, column)."""
    return [(r, c, square[r][c]) for r, c in places]


def touch(one, other):
    """Whether two tuples (row, column, thing) have their row, their column or their thing in common."""
    return one[0] == other[0] or one[1] == other[1] or one[2] == other[2]


def touches_any(cell, others):
    """Whether the tuple (row, column, thing) touches one of the others."""
    return any(touch(cell, other) for other in others)
