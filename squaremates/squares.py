"""Squares, their turnings and their renamings."""

from squaremates.errors import NoOrder, NoSquare, NoTurning

MOST = 9
PARTS = "rct"
TURNINGS = ("crt", "ctr", "rct", "rtc", "tcr", "trc")


def is_order(n, numbers):
    """Whether the list has just the numbers 0 .. n - 1, each once."""
    return sorted(numbers) == list(range(n))


def look_at_square(square):
    """Refuse, with NoSquare, what is no square."""
    n = len(square)
    if n < 1 or n > MOST:
        raise NoSquare(-1)
    for r, row in enumerate(square):
        if not is_order(n, row):
            raise NoSquare(r)
    for c in range(n):
        if not is_order(n, [row[c] for row in square]):
            raise NoSquare(n + c)


def cells(square):
    """The tuples (row, column, thing) of the square, rising."""
    return [(r, c, thing) for r, row in enumerate(square) for c, thing in enumerate(row)]


def square_of_cells(n, places):
    """The square of n things that has these cells, in whatever order."""
    square = [[0] * n for r in range(n)]
    for r, c, thing in places:
        square[r][c] = thing
    return square


def look_at_turning(turning):
    """Refuse, with NoTurning, a text that is no turning."""
    if turning not in TURNINGS:
        raise NoTurning("a turning has the letters r, c and t, each once")


def turned(square, turning):
    """The square turned by a turning."""
    look_at_turning(turning)
    first, second, third = [PARTS.index(letter) for letter in turning]
    places = [(cell[first], cell[second], cell[third]) for cell in cells(square)]
    return square_of_cells(len(square), places)


def joined_turnings(one, other):
    """The turning that turns by one, then by the other."""
    look_at_turning(one)
    look_at_turning(other)
    # The other's letters name parts of the cells that one has made: what stands there is what one put there.
    return "".join([one[PARTS.index(letter)] for letter in other])


def look_at_renaming(n, renaming):
    """Refuse, with NoOrder, a renaming that is none of the size n."""
    for order in renaming:
        if not is_order(n, order):
            raise NoOrder(f"a renaming of the size {n} has three orders of {n}")


def size_of_renaming(renaming):
    """The size that the first list of a renaming sets, refused where no square has it."""
    n = len(renaming[0])
    if n < 1 or n > MOST:
        raise NoOrder(f"the size of a renaming is from 1 to {MOST}")
    return n


def renamed(square, renaming):
    """The square to which a renaming takes this one."""
    n = len(square)
    look_at_renaming(n, renaming)
    rows, columns, things = renaming
    places = [(rows[r], columns[c], things[thing]) for r, c, thing in cells(square)]
    return square_of_cells(n, places)


def joined(one, other):
    """The renaming that does what one does, then what the other does."""
    n = size_of_renaming(one)
    look_at_renaming(n, one)
    look_at_renaming(n, other)
    rows, columns, things = [[then[k] for k in order] for order, then in zip(one, other)]
    return rows, columns, things


def back_order(order):
    """The order that leads each number back."""
    led = [0] * len(order)
    for k, number in enumerate(order):
        led[number] = k
    return led


def back(renaming):
    """The renaming that leads each row, column and thing back."""
    look_at_renaming(size_of_renaming(renaming), renaming)
    rows, columns, things = renaming
    return back_order(rows), back_order(columns), back_order(things)
