"""Planes: points and lines, any two points on just one line, and the full sets that they are."""

LEAST = 2
MOST = 5


def plane_of(squares):
    """The lines, rising, of the plane of a full set."""
    n = len(squares[0])
    rows = [[r for c in range(n)] for r in range(n)]
    columns = [[c for c in range(n)] for r in range(n)]
    lines = [list(range(n * n, n * n + n + 1))]
    # Rows and columns have their points just as squares have, told by the number of the row or the column.
    for place, square in enumerate([rows, columns, *squares]):
        for thing in range(n):
            lines.append([*places_of(square, thing), n * n + place])
    return sorted(lines)


def places_of(square, thing):
    """The points n r + c, rising, of the cells at which the thing stands."""
    n = len(square)
    return [n * r + c for r in range(n) for c in range(n) if square[r][c] == thing]


def is_plane(n, lines):
    """Whether the lists are the lines, rising, of a plane of n."""
    if n < LEAST or n > MOST:
        return False
    if len(lines) != n * n + n + 1 or not all(is_line(n, line) for line in lines):
        return False
    return lines == sorted(lines) and is_paired_once(lines)


def is_line(n, line):
    """Whether the list has n + 1 points of a plane of n, rising."""
    if len(line) != n + 1 or line != sorted(set(line)):
        return False
    return line[0] >= 0 and line[-1] <= n * n + n


def is_paired_once(lines):
    """Whether no two points stand together in two lines."""
    # So many lines of so many points have as many pairs as there are: where none comes twice, each comes once.
    pairs = [(low, high) for line in lines for at, low in enumerate(line) for high in line[at + 1:]]
    return len(set(pairs)) == len(pairs)


def set_of(n, lines, far):
    """The full set of a plane of n with the line at the place far as its far one."""
    others = [line for place, line in enumerate(lines) if place != far]
    bundles = [[line for line in others if point in line] for point in lines[far]]
    rows, columns, *squares = bundles
    meetings = [[meeting_of(row, column) for column in columns] for row in rows]
    return [[[number_of(bundle, meetings[r][c]) for c in range(n)] for r in range(n)] for bundle in squares]


def meeting_of(one, other):
    """The point that two lines have in common."""
    return [point for point in one if point in other][0]


def number_of(bundle, point):
    """The number of the line of the bundle on which the point lies."""
    return [point in line for line in bundle].index(True)
