"""Sum papers: numbers for rows, columns and things that show that a square has no way."""

from squaremates.squares import cells
from squaremates.ways import touches_any

# With more cells than these that have a rest the choices would be too many to go through.
MOST_RESTS = 12


def sum_bars(square, paper):
    """Whether the paper (m, rows, columns, things) shows that the square has no way."""
    return bars_beside(square, [], paper)


def bars_beside(square, chosen, paper):
    """Whether the paper shows that no way goes through the chosen cells (row, column, thing), none of which touch."""
    if not is_paper(len(square), paper):
        return False
    rests = [(cell, rest_of(paper, cell)) for cell in free_cells(square, chosen)]
    others = [(cell, rest) for cell, rest in rests if rest != 0]
    if len(others) > MOST_RESTS:
        return False
    return aim_of(paper, chosen) not in sums_of_choices(paper[0], others)


def is_paper(n, paper):
    """Whether m is 2 or more and each of the three lists has n numbers."""
    m, rows, columns, things = paper
    return m >= 2 and len(rows) == len(columns) == len(things) == n


def free_cells(square, chosen):
    """The cells (row, column, thing) of the square, rising, that touch no chosen one."""
    return [cell for cell in cells(square) if not touches_any(cell, chosen)]


def rest_of(paper, cell):
    """The rest of a cell (row, column, thing)."""
    m, rows, columns, things = paper
    r, c, thing = cell
    return (things[thing] - rows[r] - columns[c]) % m


def aim_of(paper, chosen):
    """The aim, in which the rows, columns and things of the chosen cells are not counted."""
    m, rows, columns, things = paper
    whole = sum(things) - sum(rows) - sum(columns)
    # Chosen cells do not touch, so each of them takes one row, one column and one thing out.
    return (whole - sum([rest_of(paper, cell) for cell in chosen])) % m


def sums_of_choices(m, rests):
    """The rests by m of the sums of all choices of tuples (cell, rest) whose cells do not touch."""
    choices = [([], 0)]
    for cell, rest in rests:
        more = [
            ([*taken, cell], (total + rest) % m)
            for taken, total in choices
            if not touches_any(cell, taken)
        ]
        choices = choices + more
    return [total for taken, total in choices]


def plain_sum(square):
    """A sum paper that bars, of which all rests are 0, with the least m from 2 to n that has one, or None."""
    for m in range(2, len(square) + 1):
        for things in plain_things(square, m):
            paper = plain_paper(square, m, things)
            if aim_of(paper, []) != 0:
                return paper
    return None


def plain_paper(square, m, things):
    """The paper in which the first row, and its first cell's column and thing, have the number 0."""
    rows = [things[row[0]] for row in square]
    columns = [things[thing] for thing in square[0]]
    return m, rows, columns, things


def plain_things(square, m):
    """All lists of things' numbers from 0 to m - 1 whose plain_paper has no rest but 0."""
    ties = [(thing, square[r][0], square[0][c]) for r, c, thing in cells(square)]
    found = [[]]
    for last in range(len(square)):
        # Each tie is looked at as soon as its last thing has a number, so that few lists go on.
        new_ties = [tie for tie in ties if max(tie) == last]
        found = [
            [*numbers, number]
            for numbers in found
            for number in range(m)
            if ties_hold(m, [*numbers, number], new_ties)
        ]
    return found


def ties_hold(m, numbers, ties):
    """Whether in each tie the first thing's number is the sum of the two others', by the rests by m."""
    return all((numbers[a] - numbers[b] - numbers[c]) % m == 0 for a, b, c in ties)
