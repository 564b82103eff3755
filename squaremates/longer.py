"""Squares made longer by a way of theirs, and shorter again."""

from squaremates.errors import NoWay
from squaremates.squares import back_order
from squaremates.ways import apart, is_way, ways


def look_at_way(square, way):
    """Refuse, with NoWay, a list that is no way of the square."""
    if not is_way(square, way):
        raise NoWay("the list is no way of the square")


def prolonged(square, way):
    """The square of one thing more, in which the things of the way stand in the last column and the last row."""
    look_at_way(square, way)
    n = len(square)
    moved = [row[c] for row, c in zip(square, way)]
    rows = [[n if c == own else thing for c, thing in enumerate(row)] for row, own in zip(square, way)]
    longer = [[*row, thing] for row, thing in zip(rows, moved)]
    longer.append([*[moved[r] for r in back_order(way)], n])
    return longer


def shortened(square):
    """The tuple of the square of one thing less and the way by which it is prolonged to this one, or None."""
    n = len(square) - 1
    # A square of one thing would come of one of no things, and there is no such square.
    if n < 1:
        return None
    upper = square[:n]
    way = [row.index(n) for row in upper]
    # Where the last row and the last column agree, n stands in the corner, and each row and column of the shorter
    # one has each thing once.
    if any(row[n] != square[n][c] for row, c in zip(upper, way)):
        return None
    shorter = [[row[n] if c == own else row[c] for c in range(n)] for row, own in zip(upper, way)]
    return shorter, way


def ways_apart(square, way):
    """All ways of the square, rising, that have no cell in common with the told one."""
    look_at_way(square, way)
    return [other for other in ways(square) if apart(way, other)]
