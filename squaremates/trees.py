"""Case trees: papers, case by case, that show that no way goes through some cells."""

from squaremates.sumpapers import bars_beside, free_cells
from squaremates.ways import first_way, full_cells, touch

# For each sort which part of a cell (row, column, thing) it tells of.
PARTS = {"row": 0, "column": 1, "thing": 2}


def tree_bars(square, cells, tree):
    """Whether the tree is a case tree for the told cells, so that no way goes through them."""
    chosen = chosen_cells(square, cells)
    return not clash(chosen) and is_case_tree(square, chosen, tree)


def chosen_cells(square, places):
    """The told cells, alike ones once, as tuples (row, column, thing), rising."""
    return full_cells(square, sorted(set(places)))


def clash(chosen):
    """Whether two of these unlike cells are in one row or column, or have one thing."""
    return any(touch(one, other) for at, one in enumerate(chosen) for other in chosen[:at])


def is_case_tree(square, chosen, tree):
    """Whether the tree is a case tree for the chosen cells (row, column, thing), none of which touch."""
    sort, told, branches = tree
    if sort == "sum":
        return isinstance(told, tuple) and not branches and bars_beside(square, chosen, told)
    if sort not in PARTS or told not in free_numbers(len(square), chosen, PARTS[sort]):
        return False
    cases = cases_of(square, chosen, PARTS[sort], told)
    if [place for place, below in branches] != [(r, c) for r, c, thing in cases]:
        return False
    return all(
        is_case_tree(square, [*chosen, case], below)
        for case, (place, below) in zip(cases, branches)
    )


def free_numbers(n, chosen, part):
    """The rows, columns or things, by the part, that no chosen cell is in or has."""
    taken = [cell[part] for cell in chosen]
    return [number for number in range(n) if number not in taken]


def cases_of(square, chosen, part, number):
    """The open cells (row, column, thing), rising, that are in the row or column, or have the thing."""
    return [cell for cell in free_cells(square, chosen) if cell[part] == number]


def way_or_tree(square, cells):
    """A tuple of "way" and the first way through the told cells, or of "barred" and a case tree for them."""
    way = first_way(square, cells)
    if way is not None:
        return "way", way
    return "barred", barring_tree(square, chosen_cells(square, cells))


def barring_tree(square, chosen):
    """A case tree, without sums, for chosen cells that do not touch and through which no way goes."""
    sort, number = narrowest(square, chosen)
    cases = cases_of(square, chosen, PARTS[sort], number)
    branches = [((r, c), barring_tree(square, [*chosen, (r, c, thing)])) for r, c, thing in cases]
    return sort, number, branches


def narrowest(square, chosen):
    """The sort and number, of those that no chosen cell is in or has, with the fewest open cells."""
    left = free_cells(square, chosen)
    tries = [
        ([cell[PARTS[sort]] for cell in left].count(number), sort, number)
        for sort in PARTS
        for number in free_numbers(len(square), chosen, PARTS[sort])
    ]
    fewest, sort, number = min(tries)
    return sort, number
