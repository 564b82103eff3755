"""Sets of squares, each two of them mates."""

from squaremates.mates import are_mates


def is_set(squares):
    """Whether the list has one or more squares of two things or more, each two of them mates."""
    if not squares or len(squares[0]) < 2:
        return False
    return all(
        are_mates(one, other)
        for place, one in enumerate(squares)
        for other in squares[:place]
    )


def witness(squares):
    """For each square the column at which its first row has the thing at its row 1 and column 0."""
    return [square[0].index(square[1][0]) for square in squares]
