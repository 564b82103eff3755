"""Rounds in which teams meet, and the squares that they are."""

from squaremates.exchanges import rising_pairs
from squaremates.squares import is_order, square_of_cells, turned

TEAMS = (2, 4, 6, 8)


def is_rounds(m, rounds):
    """Whether the lists are rounds of m teams, any two of which meet in just one."""
    if m not in TEAMS or len(rounds) != m - 1:
        return False
    if not all(is_one_round(m, pairs) for pairs in rounds):
        return False
    # So many rounds have as many pairs as there are: where none comes twice, each comes once.
    met = [pair for pairs in rounds for pair in pairs]
    return len(set(met)) == len(met)


def is_one_round(m, pairs):
    """Whether the tuples (a, b), a less than b, are rising and have each of the m teams once."""
    if pairs != sorted(pairs) or not all(a < b for a, b in pairs):
        return False
    return is_order(m, [team for pair in pairs for team in pair])


def square_of_rounds(rounds):
    """The square that has 0 where row and column are one, else the number, from 1 on, of the round of both."""
    meets = [(a, b, k + 1) for k, pairs in enumerate(rounds) for a, b in pairs]
    mirrored = [(b, a, thing) for a, b, thing in meets]
    return square_of_cells(len(rounds) + 1, meets + mirrored)


def rounds_of(square):
    """The rounds of which the square comes, or None."""
    m = len(square)
    if any(square[a][a] != 0 for a in range(m)) or square != turned(square, "crt"):
        return None
    return [[(a, b) for a, b in rising_pairs(m) if square[a][b] == thing] for thing in range(1, m)]


def made_rounds(m):
    """The made rounds of m teams."""
    return [made_round(m, k) for k in range(m - 1)]


def made_round(m, k):
    """The round k of the made rounds of m teams."""
    # No pair with k itself is among these: it would need k twice.
    others = [(a, b) for a, b in rising_pairs(m - 1) if (a + b - 2 * k) % (m - 1) == 0]
    return sorted([(k, m - 1), *others])
