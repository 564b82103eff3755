"""Least forms: which squares are alike, and in how many ways."""

from squaremates.squares import TURNINGS, back, back_order, joined, turned


def orders(n):
    """All orders of n, rising."""
    found = [[]]
    for length in range(n):
        found = [[*order, k] for order in found for k in range(n) if k not in order]
    return found


def things_by(square, top, columns):
    """The order of things by which the row top, its columns put in this order, is 0, 1 .. n - 1."""
    return back_order([square[top][c] for c in columns])


def form_by(square, top, columns):
    """The square with the row top as its first, the columns in this order, and first row and column rising."""
    things = things_by(square, top, columns)
    lines = [[things[row[c]] for c in columns] for row in square]
    # No two rows begin with the same thing, so this sets the first column in order.
    return sorted(lines)


def renaming_by(square, top, columns):
    """The renaming that takes the square to its form_by."""
    things = things_by(square, top, columns)
    rows = [things[row[columns[0]]] for row in square]
    return rows, back_order(columns), things


def least_tries(square):
    """The least form, and all tuples (top, columns) whose form_by it is."""
    form, tries = None, []
    for columns in orders(len(square)):
        for top in range(len(square)):
            tried = form_by(square, top, columns)
            if form is None or tried < form:
                form, tries = tried, []
            if tried == form:
                tries.append((top, columns))
    return form, tries


def least_form(square):
    """The tuple of the least form and a renaming that takes the square there."""
    form, tries = least_tries(square)
    top, columns = tries[0]
    return form, renaming_by(square, top, columns)


def alike(one, other):
    """A renaming that takes the one square to the other, or None."""
    form, there = least_form(one)
    other_form, other_there = least_form(other)
    if form != other_form:
        return None
    return joined(there, back(other_there))


def selves(square):
    """How many renamings take the square to itself."""
    # A renaming to the least form is set by its top row and its columns, and there are as many of them
    # as there are selves: any two differ by a self of the square.
    form, tries = least_tries(square)
    return len(tries)


def alike_count(square):
    """How many squares are alike to the square, itself among them."""
    product = 1
    for k in range(1, len(square) + 1):
        product *= k
    return product ** 3 // selves(square)


def main_form(square):
    """The tuple of the first least form of the six turned squares and the first turning that has it."""
    tries = [(least_form(turned(square, turning))[0], turning) for turning in TURNINGS]
    return min(tries)
