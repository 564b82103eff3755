"""Mates of squares, the partings into ways that they come from, and trees that show that there is none."""

from squaremates.squares import square_of_cells
from squaremates.ways import apart, ways


def are_mates(one, other):
    """Whether, laid over one another, no two cells have the same two things."""
    pairs = [pair for row, over in zip(one, other) for pair in zip(row, over)]
    return len(set(pairs)) == len(pairs)


def mate_of(parting):
    """The square in which each cell has the number of the way that it is on."""
    return square_of_cells(len(parting), [(r, c, k) for k, way in enumerate(parting) for r, c in enumerate(way)])


def parting_of(square, mate):
    """The list of the ways of the square whose k-th has the cells in which the mate has k."""
    return [[row.index(k) for row in mate] for k in range(len(square))]


def ways_apart_at(known, chosen, cell):
    """Those of the known ways, in their order, that go through the cell and are apart from each chosen one."""
    r, c = cell
    return [way for way in known if way[r] == c and all(apart(way, other) for other in chosen)]


def no_mate(square, tree):
    """Whether the tree is a mate tree for no ways, so that the square has no mate."""
    return is_mate_tree(len(square), ways(square), [], tree)


def is_mate_tree(n, known, chosen, tree):
    """Whether the tree is a mate tree for the chosen ways of a square of n things with these known ways."""
    cell, branches = tree
    if not is_left_cell(n, chosen, cell):
        return False
    if [way for way, below in branches] != ways_apart_at(known, chosen, cell):
        return False
    return all(is_mate_tree(n, known, [*chosen, way], below) for way, below in branches)


def is_left_cell(n, chosen, cell):
    """Whether the two numbers are a cell of a square of n things that is on none of the chosen ways."""
    r, c = cell
    return 0 <= r < n and 0 <= c < n and all(way[r] != c for way in chosen)


def mate_or_tree(square):
    """A tuple of "mate" and a mate with its first row in order, or of "none" and a mate tree for no ways."""
    return gone_on_from(len(square), ways(square), [])


def gone_on_from(n, known, chosen):
    """As mate_or_tree, of the mates and mate trees for the chosen ways, which go through the first row in order."""
    if len(chosen) == n:
        return "mate", mate_of(chosen)
    cell = (0, len(chosen))
    branches = []
    for way in ways_apart_at(known, chosen, cell):
        word, found = gone_on_from(n, known, [*chosen, way])
        if word == "mate":
            return word, found
        # One way stands at many places of a tree, so each place has a list of its own.
        branches.append((list(way), found))
    return "none", (cell, branches)


def partings(square):
    """How many partings the square has, the same ways in whatever order counted once."""
    return partings_from(len(square), ways(square), [])


def partings_from(n, known, chosen):
    """How many partings have the chosen ways, which go through the first row in order."""
    if len(chosen) == n:
        return 1
    # Each parting has just one way through each cell of the first row, so it is counted in just one order.
    nexts = ways_apart_at(known, chosen, (0, len(chosen)))
    return sum([partings_from(n, known, [*chosen, way]) for way in nexts])
