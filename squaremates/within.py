"""Squares within squares."""


def rising_lists(n, k):
    """All rising lists of k of the numbers 0 .. n - 1, in order."""
    found = [[]]
    for length in range(k):
        found = [[*begun, number] for begun in found for number in range(n) if not begun or number > begun[-1]]
    return found


def things_in(square, rows, columns):
    """The things, each once and rising, in the cells of these rows and columns."""
    return sorted({square[r][c] for r in rows for c in columns})


def part_squares(square, k):
    """All part squares (rows, columns) of size k of the square, in order."""
    n = len(square)
    if k < 1 or k > n:
        return []
    lists = rising_lists(n, k)
    # One list of rows or columns belongs to many part squares, so each has a list of its own.
    return [
        (list(rows), list(columns))
        for rows in lists
        for columns in lists
        if len(things_in(square, rows, columns)) == k
    ]


def content(square, rows, columns):
    """The square in a part square, its things written as 0, 1 .. by rising."""
    things = things_in(square, rows, columns)
    return [[things.index(square[r][c]) for c in columns] for r in rows]


def put_in(square, rows, columns, other):
    """The square with another one put in instead of the content of a part square."""
    things = things_in(square, rows, columns)
    changed = [list(row) for row in square]
    for r, line in zip(rows, other):
        for c, thing in zip(columns, line):
            changed[r][c] = things[thing]
    return changed
