"""Plain squares, drawn squares and looks at lists, for all tests."""

from itertools import chain, combinations, permutations
from random import Random

from squaremates.makings import field_squares

TURNINGS = sorted("".join(letters) for letters in permutations("rct"))
FIELDS = (2, 3, 4, 5, 7, 8, 9)
FORTY = 10 ** 40 - 1

# The square of four things, up to renamings, that has ways and a mate.
FOUR_ONCE = [[0, 1, 2, 3], [1, 0, 3, 2], [2, 3, 0, 1], [3, 2, 1, 0]]

# Squares of six things, found by drawing: three least forms among their six turned ones.
UNEVEN = {
    "crt": [[3, 5, 2, 1, 4, 0], [5, 4, 0, 3, 2, 1], [4, 0, 3, 2, 1, 5],
            [0, 3, 1, 4, 5, 2], [2, 1, 5, 0, 3, 4], [1, 2, 4, 5, 0, 3]],
    "rct": [[2, 0, 4, 1, 3, 5], [0, 1, 2, 5, 4, 3], [1, 5, 3, 0, 2, 4],
            [4, 3, 1, 2, 5, 0], [3, 2, 5, 4, 0, 1], [5, 4, 0, 3, 1, 2]],
    "tcr": [[1, 0, 5, 4, 2, 3], [2, 1, 3, 0, 5, 4], [3, 2, 0, 1, 4, 5],
            [0, 3, 4, 5, 1, 2], [5, 4, 2, 3, 0, 1], [4, 5, 1, 2, 3, 0]],
}

# Squares of six things, found by drawing, that have no way, though no plain sum paper bars them.
WAYLESS_SIX = [
    [[4, 3, 1, 0, 5, 2], [5, 4, 2, 3, 0, 1], [3, 2, 0, 5, 1, 4],
     [2, 0, 3, 1, 4, 5], [0, 1, 5, 4, 2, 3], [1, 5, 4, 2, 3, 0]],
    [[1, 0, 3, 2, 4, 5], [4, 3, 0, 5, 1, 2], [0, 4, 5, 3, 2, 1],
     [5, 1, 2, 4, 3, 0], [2, 5, 4, 1, 0, 3], [3, 2, 1, 0, 5, 4]],
]


def round_square(n):
    return [[(r + c) % n for c in range(n)] for r in range(n)]


def is_square(square):
    n = len(square)
    whole = set(range(n))
    rows = all(len(row) == n and set(row) == whole for row in square)
    return rows and all({row[c] for row in square} == whole for c in range(n))


def cell_set(square):
    return {(r, c, square[r][c]) for r in range(len(square)) for c in range(len(square))}


def square_from(n, cells):
    square = [[None] * n for r in range(n)]
    for r, c, thing in cells:
        assert square[r][c] is None
        square[r][c] = thing
    return square


def plain_turned(square, turning):
    named = [dict(zip("rct", cell)) for cell in cell_set(square)]
    return square_from(len(square), [tuple(parts[letter] for letter in turning) for parts in named])


def plain_renamed(square, renaming):
    rows, columns, things = renaming
    return square_from(len(square), [(rows[r], columns[c], things[t]) for r, c, t in cell_set(square)])


def drawn_order(draw, n):
    order = list(range(n))
    draw.shuffle(order)
    return order


def drawn_renaming(draw, n):
    return drawn_order(draw, n), drawn_order(draw, n), drawn_order(draw, n)


def drawn_row(draw, rows, n, begun):
    """A row that goes on from what is begun and can stand below these rows, or None."""
    if len(begun) == n:
        return begun
    for thing in drawn_order(draw, n):
        if thing not in begun and all(row[len(begun)] != thing for row in rows):
            row = drawn_row(draw, rows, n, [*begun, thing])
            if row is not None:
                return row
    return None


def drawn_square(draw, n):
    square = []
    for r in range(n):
        square.append(drawn_row(draw, square, n, []))
    assert is_square(square)
    return square


def drawn_squares(seed, sizes, many):
    draw = Random(seed)
    return [drawn_square(draw, n) for n in sizes for time in range(many)]


def all_orders(n):
    return [list(order) for order in permutations(range(n))]


def all_squares(n):
    """All squares of n things, by rows put below each other."""
    found = [[]]
    for r in range(n):
        found = [
            [*rows, order]
            for rows in found
            for order in all_orders(n)
            if all(row[c] != order[c] for row in rows for c in range(n))
        ]
    return found


def drawn_set(draw, q, many):
    """So many squares of q things, from a field, each two of them mates."""
    rows, columns = drawn_order(draw, q), drawn_order(draw, q)
    return [plain_renamed(square, (rows, columns, drawn_order(draw, q)))
            for square in draw.sample(field_squares(q), many)]


def plain_mates(one, other):
    """Whether each pair of things comes just once."""
    pairs = [(a, b) for row, over in zip(one, other) for a, b in zip(row, over)]
    return all(pairs.count((a, b)) == 1 for a in range(len(one)) for b in range(len(one)))


def plain_is_way(square, way):
    n = len(square)
    return (len(way) == n and all(0 <= c < n for c in way) and len(set(way)) == n
            and len({square[r][way[r]] for r in range(n)}) == n)


def plain_ways(square):
    return [order for order in all_orders(len(square)) if plain_is_way(square, order)]


def plain_clash(square, cells):
    """Whether two unlike cells (row, column) are in one row or column, or have one thing."""
    return any(one != other and (one[0] == other[0] or one[1] == other[1]
                                 or square[one[0]][one[1]] == square[other[0]][other[1]])
               for one in cells for other in cells)


def plain_open(square, chosen):
    """The cells (row, column), in order, that are in no row and column of a chosen one and have no thing of one."""
    n = len(square)
    return [(r, c) for r in range(n) for c in range(n)
            if (r, c) not in chosen and not any(plain_clash(square, [(r, c), cell]) for cell in chosen)]


def plain_rests(square, chosen, paper):
    """The rests other than 0 of the open cells."""
    m, rows, columns, things = paper
    rests = {(r, c): (things[square[r][c]] - rows[r] - columns[c]) % m for r, c in plain_open(square, chosen)}
    return {cell: rest for cell, rest in rests.items() if rest != 0}


def plain_aim(taken, paper):
    """The aim, counted without the chosen cells, here told as tuples (row, column, thing)."""
    m, rows, columns, things = paper
    signs = ((0, -1, rows), (1, -1, columns), (2, 1, things))
    return sum(sign * number for part, sign, numbers in signs for k, number in enumerate(numbers)
               if k not in [cell[part] for cell in taken]) % m


def plain_bars(square, chosen, paper):
    """By the document's words, with all choices of cells gone through."""
    m, *lists = paper
    if m < 2 or any(len(numbers) != len(square) for numbers in lists):
        return False
    rests = plain_rests(square, chosen, paper)
    if len(rests) > 12:
        return False
    aim = plain_aim([(r, c, square[r][c]) for r, c in chosen], paper)
    choices = chain.from_iterable(combinations(rests, many) for many in range(len(rests) + 1))
    return not any(sum(rests[cell] for cell in cells) % m == aim and not plain_clash(square, cells)
                   for cells in choices)


def round_paper(n, m, step):
    """A plain paper for the round square of n, where n step is m."""
    return m, *[[step * k for k in range(n)] for part in range(3)]


def changed_paper(paper, changes):
    """The paper with numbers put to those at places (part, k)."""
    m, *lists = paper
    lists = [list(numbers) for numbers in lists]
    for (part, k), more in changes.items():
        lists[part][k] += more
    return m, *lists


def lists_in(value):
    """Every list in a value, as many times as it stands there."""
    if not isinstance(value, (list, tuple)):
        return []
    inner = [found for part in value for found in lists_in(part)]
    return [value, *inner] if isinstance(value, list) else inner


def copied(value):
    """The same value, with a new list at each place."""
    if isinstance(value, list):
        return [copied(part) for part in value]
    if isinstance(value, tuple):
        return tuple(copied(part) for part in value)
    return value


def spoil(value):
    """Change every list in a value."""
    for found in lists_in(value):
        found[:] = [-7, -7, -7]


def overwrite(value, other):
    """Give the innermost lists of value what those of the other, of the same shape, have."""
    for old, new in zip(lists_in(value), lists_in(other)):
        if not lists_in(new)[1:]:
            old[:] = new


def check_own(case, function, first, second):
    """Promise [2] of one function, for two tuples of arguments that differ in their innermost lists alone."""
    first_told = copied(function(*copied(first)))
    second_told = copied(function(*copied(second)))
    handed = copied(first)

    told = function(*handed)
    case.assertEqual(told, first_told)
    case.assertEqual(handed, first)
    again = function(*handed)
    case.assertEqual(again, first_told)
    addresses = [id(found) for found in lists_in((handed, told, again))]
    case.assertEqual(len(addresses), len(set(addresses)))

    spoil(told)
    case.assertEqual(handed, first)
    case.assertEqual(again, first_told)
    case.assertEqual(function(*handed), first_told)

    overwrite(handed, second)
    case.assertEqual(handed, second)
    case.assertEqual(function(*handed), second_told)
    case.assertEqual(again, first_told)

    spoil(handed)
    case.assertEqual(again, first_told)
    case.assertEqual(function(*copied(first)), first_told)


def check_refused(case, kind, function, *arguments):
    """Refused with just this class, and the handed lists stay; the error is told."""
    kept = copied(arguments)
    with case.assertRaises(kind) as caught:
        function(*arguments)
    case.assertEqual(type(caught.exception), kind)
    case.assertEqual(arguments, kept)
    return caught.exception
