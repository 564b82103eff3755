import unittest
from itertools import combinations
from random import Random

from squaremates.rounds import is_rounds, made_rounds, rounds_of, square_of_rounds
from tests.helpers import (
    FORTY, FOUR_ONCE, all_squares, check_own, copied, drawn_order, drawn_renaming, drawn_square, drawn_squares,
    is_square, plain_renamed, round_square,
)

TEAMS = (2, 4, 6, 8)
EIGHT_BY_TWOS = [[a ^ b for b in range(8)] for a in range(8)]


def put_rising(rounds):
    """The same rounds, the teams of each tuple rising, and the tuples of each round."""
    return [sorted(tuple(sorted(pair)) for pair in pairs) for pairs in rounds]


def plain_made(m):
    """By the document's words, pair by pair."""
    made = []
    for k in range(m - 1):
        others = [(a, b) for a, b in combinations(range(m - 1), 2)
                  if k not in (a, b) and (a + b - 2 * k) % (m - 1) == 0]
        made.append(sorted([(k, m - 1), *others]))
    return made


def drawn_rounds(draw, m):
    """Made rounds with their teams named otherwise and the rounds in another order."""
    names = drawn_order(draw, m)
    rounds = [[(names[a], names[b]) for a, b in pairs] for pairs in plain_made(m)]
    draw.shuffle(rounds)
    return put_rising(rounds)


def rounds_by_twos():
    return [sorted((a, a ^ k) for a in range(8) if a < a ^ k) for k in range(1, 8)]


def plain_is_rounds(m, rounds):
    met = [pair for pairs in rounds for pair in pairs]
    return (len(rounds) == m - 1
            and all(pairs == put_rising([pairs])[0] for pairs in rounds)
            and all([team for pair in pairs for team in pair].count(a) == 1 for pairs in rounds for a in range(m))
            and all(0 <= a < b < m for a, b in met)
            and all(met.count(pair) == 1 for pair in combinations(range(m), 2)))


def plain_square(rounds):
    m = len(rounds) + 1
    return [[0 if a == b else [tuple(sorted((a, b))) in pairs for pairs in rounds].index(True) + 1
             for b in range(m)] for a in range(m)]


def plain_rounds_of(square):
    m = len(square)
    if any(square[a][a] != 0 for a in range(m)):
        return None
    if any(square[a][b] != square[b][a] for a in range(m) for b in range(m)):
        return None
    return [[(a, b) for a, b in combinations(range(m), 2) if square[a][b] == k + 1] for k in range(m - 1)]


def samples(seed):
    """Tuples (m, rounds)."""
    draw = Random(seed)
    for m in TEAMS:
        yield m, plain_made(m)
        for time in range(4):
            yield m, drawn_rounds(draw, m)
    yield 8, rounds_by_twos()


def with_pair(rounds, k, at, pairs):
    """The rounds with these pairs instead of the one at a place of the round k."""
    return [[*told[:at], *pairs, *told[at + 1:]] if place == k else told for place, told in enumerate(rounds)]


def worse_pairs(m, a, b):
    """What can stand instead of the pair (a, b), wrong in one thing."""
    yield []
    yield [(a, b), (a, b)]
    yield [(b, a)]
    for wrong in (-1, m, m + 1, FORTY, -FORTY, a - m, b + m):
        yield [(a, wrong)]
        yield [(wrong, b)]
    yield [(a, a)]
    yield [(b, b)]
    for team in range(m):
        if team not in (a, b):
            yield [tuple(sorted((a, team)))]
            yield [tuple(sorted((b, team)))]


class IsRounds(unittest.TestCase):
    def test_by_hand(self):
        self.assertIs(is_rounds(2, [[(0, 1)]]), True)
        self.assertIs(is_rounds(2, []), False)
        self.assertIs(is_rounds(2, [[]]), False)
        self.assertIs(is_rounds(2, [[(1, 0)]]), False)
        self.assertIs(is_rounds(4, [[(0, 2), (1, 3)], [(0, 1), (2, 3)], [(0, 3), (1, 2)]]), True)
        self.assertIs(is_rounds(4, [[(0, 2), (1, 3)], [(0, 1), (2, 3)], [(1, 2), (0, 3)]]), False)
        self.assertIs(is_rounds(4, [[(0, 2), (1, 3)], [(0, 1), (2, 3)]]), False)

    def test_rounds(self):
        for m, rounds in samples(80):
            self.assertTrue(plain_is_rounds(m, rounds))
            self.assertIs(is_rounds(m, rounds), True)
            self.assertIs(is_rounds(m, rounds[::-1]), True)
            for other in TEAMS:
                self.assertIs(is_rounds(other, rounds), other == m)

    def refused(self, m, rounds):
        self.assertFalse(plain_is_rounds(m, rounds))
        self.assertIs(is_rounds(m, rounds), False, (m, rounds))

    def test_rounds_left_out_or_twice(self):
        for m, rounds in samples(81):
            self.refused(m, [])
            self.refused(m, [[] for pairs in rounds])
            self.refused(m, [*rounds, []])
            for k in range(m - 1):
                self.refused(m, rounds[:k] + rounds[k + 1:])
                self.refused(m, rounds[:k] + [[]] + rounds[k + 1:])
                self.refused(m, [*rounds, list(rounds[k])])
                for other in range(m - 1):
                    if other != k:
                        self.refused(m, [*rounds[:k], list(rounds[other]), *rounds[k + 1:]])

    def test_a_round_in_another_order(self):
        for m, rounds in samples(82):
            for k in range(m - 1):
                if m > 2:
                    self.refused(m, [*rounds[:k], rounds[k][::-1], *rounds[k + 1:]])
                for at in range(m // 2 - 1):
                    moved = [*rounds[k][:at], rounds[k][at + 1], rounds[k][at], *rounds[k][at + 2:]]
                    self.refused(m, [*rounds[:k], moved, *rounds[k + 1:]])

    def test_pairs(self):
        for m, rounds in samples(83):
            for k, pairs in enumerate(rounds):
                for at, (a, b) in enumerate(pairs):
                    for instead in worse_pairs(m, a, b):
                        changed = with_pair(rounds, k, at, instead)
                        self.refused(m, changed)
                        # In the order that is asked for, so that it is not that which is wrong.
                        self.refused(m, [sorted(told) for told in changed])

    def test_two_teams_that_meet_twice(self):
        """Each team stands once in each round, but some pairs come twice and some not at all."""
        for m, rounds in samples(84):
            for k, pairs in enumerate(rounds):
                for (a, b), (c, d) in combinations(pairs, 2):
                    rest = [pair for pair in pairs if pair not in ((a, b), (c, d))]
                    for instead in ([(a, c), (b, d)], [(a, d), (b, c)]):
                        changed = put_rising([*rounds[:k], [*rest, *instead], *rounds[k + 1:]])
                        self.refused(m, changed)

    def test_pairs_at_unlike_rounds(self):
        """All pairs come once, but not each team once in each round."""
        draw = Random(85)
        for m in (4, 6, 8):
            pairs = list(combinations(range(m), 2))
            half = m // 2
            self.refused(m, [pairs[k * half:(k + 1) * half] for k in range(m - 1)])
            self.refused(m, [pairs, *[[] for k in range(m - 2)]])
            for time in range(20):
                draw.shuffle(pairs)
                drawn = [sorted(pairs[k * half:(k + 1) * half]) for k in range(m - 1)]
                self.assertIs(is_rounds(m, drawn), plain_is_rounds(m, drawn))

    def test_other_sizes(self):
        for m in (-2, -1, 0, 1, 3, 5, 7, 9, 10, FORTY, -FORTY):
            for rounds in ([], [[]], plain_made(2), plain_made(8), plain_made(10)):
                self.assertIs(is_rounds(m, rounds), False)

    def test_long_lists(self):
        for m in TEAMS:
            self.refused(m, [[(0, 1)] * 100] * 100)
            self.refused(m, [[] for k in range(100)])


class Squares(unittest.TestCase):
    def test_by_hand(self):
        self.assertEqual(square_of_rounds([[(0, 1)]]), [[0, 1], [1, 0]])
        rounds = [[(0, 2), (1, 3)], [(0, 1), (2, 3)], [(0, 3), (1, 2)]]
        square = [[0, 2, 1, 3], [2, 0, 3, 1], [1, 3, 0, 2], [3, 1, 2, 0]]
        self.assertEqual(square_of_rounds(rounds), square)
        self.assertEqual(rounds_of(square), rounds)
        self.assertIsNone(rounds_of([[1, 0], [0, 1]]))

    def test_there_and_back(self):
        for m, rounds in samples(86):
            square = square_of_rounds(rounds)
            self.assertTrue(is_square(square))
            self.assertEqual(square, plain_square(rounds))
            self.assertEqual(rounds_of(square), rounds)
        self.assertEqual(square_of_rounds(rounds_by_twos()), EIGHT_BY_TWOS)

    def test_all_of_few_things(self):
        told = []
        for n in (2, 4):
            for square in all_squares(n):
                told.append(rounds_of(square))
                self.assertEqual(told[-1], plain_rounds_of(square))
                if told[-1] is not None:
                    self.assertIs(is_rounds(n, told[-1]), True)
                    self.assertEqual(square_of_rounds(told[-1]), square)
        self.assertEqual(len(told) - told.count(None), 1 + 6)

    def test_squares_that_do_not_come_so(self):
        draw = Random(87)
        for m, rounds in samples(88):
            square = plain_square(rounds)
            keep = list(range(m))
            for time in range(3):
                rows, columns, things = drawn_renaming(draw, m)
                zero_first = [0, *[thing for thing in things if thing != 0]]
                self.assertEqual(rounds_of(plain_renamed(square, (rows, rows, zero_first))),
                                 plain_rounds_of(plain_renamed(square, (rows, rows, zero_first))))
                self.assertIsNotNone(rounds_of(plain_renamed(square, (rows, rows, zero_first))))
                for renaming in ((rows, keep, keep), (keep, columns, keep), (keep, keep, things)):
                    other = plain_renamed(square, renaming)
                    self.assertEqual(rounds_of(other), plain_rounds_of(other))
            # The same with the things named on by one: what stands where row and column are one is no 0.
            self.assertIsNone(rounds_of([[(thing + 1) % m for thing in row] for row in square]))
        for m in TEAMS[1:]:
            # Mirrored, but with unlike things where row and column are one.
            self.assertIsNone(rounds_of(round_square(m)))
            # 0 where row and column are one, but not mirrored.
            self.assertIsNone(rounds_of([[(c - r) % m for c in range(m)] for r in range(m)]))
        for square in drawn_squares(89, (4, 6, 8), 10):
            self.assertEqual(rounds_of(square), plain_rounds_of(square))

    def test_one_cell_not_mirrored(self):
        """Zeros where row and column are one, and mirrored but for four cells in two rows."""
        square = [list(row) for row in EIGHT_BY_TWOS]
        for r, c in ((0, 2), (1, 3)):
            square[r][c] = EIGHT_BY_TWOS[1 - r][c]
        for r, c in ((0, 3), (1, 2)):
            square[r][c] = EIGHT_BY_TWOS[1 - r][c]
        self.assertTrue(is_square(square))
        self.assertIsNone(rounds_of(square))
        mirrored = [[square[min(r, c)][max(r, c)] for c in range(8)] for r in range(8)]
        self.assertTrue(is_square(mirrored))
        self.assertEqual(square_of_rounds(rounds_of(mirrored)), mirrored)


class Made(unittest.TestCase):
    def test_by_hand(self):
        self.assertEqual(made_rounds(2), [[(0, 1)]])
        self.assertEqual(made_rounds(4), [[(0, 3), (1, 2)], [(0, 2), (1, 3)], [(0, 1), (2, 3)]])

    def test_by_the_words(self):
        for m in TEAMS:
            self.assertEqual(made_rounds(m), plain_made(m))
            self.assertTrue(plain_is_rounds(m, made_rounds(m)))
            self.assertTrue(is_square(square_of_rounds(made_rounds(m))))


class Own(unittest.TestCase):
    def test_of_rounds(self):
        draw = Random(90)
        for m in TEAMS:
            first, second = drawn_rounds(draw, m), drawn_rounds(draw, m)
            check_own(self, lambda rounds: is_rounds(m, rounds), (first,), (second,))
            check_own(self, is_rounds, (m, first), (m, [first[0] for pairs in first]))
            check_own(self, square_of_rounds, (first,), (second,))
            one, other = square_of_rounds(first), drawn_square(draw, m)
            check_own(self, rounds_of, (one,), (square_of_rounds(second),))
            check_own(self, rounds_of, (one,), (other,))
            check_own(self, rounds_of, (other,), (one,))
            check_own(self, made_rounds, (m,), (m,))
        check_own(self, rounds_of, (FOUR_ONCE,), (round_square(4),))

    def test_told_ones_changed(self):
        for m in TEAMS:
            told = made_rounds(m)
            kept = copied(told)
            told[0].append((0, 0))
            told.append([])
            self.assertEqual(made_rounds(m), kept)
