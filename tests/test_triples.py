import unittest
from itertools import combinations, permutations
from random import Random

from squaremates.errors import NoNumber
from squaremates.makings import field_squares
from squaremates.triples import is_triples, made_triples, square_of_triples, triples_of
from tests.helpers import (
    FORTY, TURNINGS, all_squares, check_own, check_refused, drawn_order, drawn_renaming, drawn_square,
    drawn_squares, is_square, plain_renamed, plain_turned, round_square,
)

SIZES = (1, 3, 7, 9)
ONE_SEVEN = [(0, 1, 3), (0, 2, 6), (0, 4, 5), (1, 2, 4), (1, 5, 6), (2, 3, 5), (3, 4, 6)]
# Squares that have a at row and column a, but are not themselves by all turnings.
EVEN_FIVE = [[3 * (a + b) % 5 for b in range(5)] for a in range(5)]
EVEN_SEVEN = [[4 * (a + b) % 7 for b in range(7)] for a in range(7)]
# By "ctr" and "trc" it is itself, by no other turning but "rct".
CIRCLING_SEVEN = [[(3 * a + 5 * b) % 7 for b in range(7)] for a in range(7)]


def plain_made(n):
    if n == 7:
        return sorted(tuple(sorted((k + put) % 7 for k in (0, 1, 3))) for put in range(7))
    if n == 9:
        lines = [[(r, c) for r in range(3) for c in range(3) if r == k] for k in range(3)]
        lines += [[(r, c) for r in range(3) for c in range(3) if c == k] for k in range(3)]
        lines += [[(r, c) for r in range(3) for c in range(3) if square[r][c] == k]
                  for square in field_squares(3) for k in range(3)]
        return sorted(tuple(sorted(3 * r + c for r, c in line)) for line in lines)
    return [(0, 1, 2)] if n == 3 else []


def drawn_triples(draw, n):
    names = drawn_order(draw, n)
    return sorted(tuple(sorted(names[k] for k in triple)) for triple in plain_made(n))


def plain_is_triples(n, triples):
    return (all(0 <= a < b < c < n for a, b, c in triples)
            and triples == sorted(triples)
            and all(sum(a in triple and b in triple for triple in triples) == 1
                    for a, b in combinations(range(n), 2))
            and (n > 1 or triples == []))


def plain_square(n, triples):
    def third(a, b):
        if a == b:
            return a
        triple, = [triple for triple in triples if a in triple and b in triple]
        return [k for k in triple if k not in (a, b)][0]
    return [[third(a, b) for b in range(n)] for a in range(n)]


def plain_comes_so(square):
    n = len(square)
    return (all(square[a][a] == a for a in range(n))
            and all(plain_turned(square, turning) == square for turning in TURNINGS))


def samples(seed):
    draw = Random(seed)
    for n in SIZES:
        yield n, plain_made(n)
        for time in range(4):
            yield n, drawn_triples(draw, n)


class IsTriples(unittest.TestCase):
    def test_by_hand(self):
        self.assertIs(is_triples(1, []), True)
        self.assertIs(is_triples(1, [(0, 0, 0)]), False)
        self.assertIs(is_triples(1, [(0, 1, 2)]), False)
        self.assertIs(is_triples(2, []), False)
        self.assertIs(is_triples(3, [(0, 1, 2)]), True)
        self.assertIs(is_triples(3, [(0, 2, 1)]), False)
        self.assertIs(is_triples(3, [(0, 1, 2), (0, 1, 2)]), False)
        self.assertIs(is_triples(3, []), False)
        self.assertIs(is_triples(7, ONE_SEVEN), True)
        self.assertIs(is_triples(7, ONE_SEVEN[::-1]), False)

    def test_triples(self):
        for n, triples in samples(100):
            self.assertTrue(plain_is_triples(n, triples))
            for other in range(1, 10):
                self.assertIs(is_triples(other, triples), other == n)

    def test_all_lists_of_few_numbers(self):
        for n in range(1, 6):
            known = list(combinations(range(n), 3))
            found = [list(triples) for many in range(len(known) + 1) for triples in combinations(known, many)
                     if is_triples(n, list(triples))]
            self.assertEqual(found, [plain_made(n)] if n in (1, 3) else [])

    def refused(self, n, triples):
        self.assertFalse(plain_is_triples(n, triples))
        self.assertIs(is_triples(n, triples), False, (n, triples))

    def test_triples_left_out_or_twice(self):
        for n, triples in samples(101):
            for at, triple in enumerate(triples):
                self.refused(n, triples[:at] + triples[at + 1:])
                self.refused(n, triples[:at] + [triple] + triples[at:])
                self.refused(n, [*triples, triple])
                if at > 0:
                    self.refused(n, [*triples[:at - 1], triple, triples[at - 1], *triples[at + 1:]])

    def test_one_number_otherwise(self):
        for n, triples in samples(102):
            for at, triple in enumerate(triples):
                for place in range(3):
                    for wrong in (-1, n, n + 1, FORTY, -FORTY, *range(n)):
                        other = tuple(wrong if k == place else triple[k] for k in range(3))
                        if other == triple:
                            continue
                        changed = [*triples[:at], other, *triples[at + 1:]]
                        self.refused(n, changed)
                        self.refused(n, sorted(changed))
                        self.refused(n, sorted([*triples[:at], tuple(sorted(other)), *triples[at + 1:]]))

    def test_not_rising(self):
        for n, triples in samples(103):
            for at, triple in enumerate(triples):
                for other in permutations(triple):
                    if other != triple:
                        changed = [*triples[:at], other, *triples[at + 1:]]
                        self.refused(n, changed)
                        self.refused(n, sorted(changed))

    def test_pairs_twice_and_not_at_all(self):
        """As many triples as there should be, rising and in order, of drawn numbers."""
        draw = Random(104)
        for n in range(3, 10):
            known = list(combinations(range(n), 3))
            many = max(1, n * (n - 1) // 6)
            for time in range(40):
                drawn = sorted(draw.sample(known, min(many, len(known))))
                self.assertIs(is_triples(n, drawn), plain_is_triples(n, drawn))

    def test_sizes_without_triples(self):
        for n in (2, 4, 5, 6, 8):
            for triples in ([], *[plain_made(other) for other in SIZES]):
                self.refused(n, triples)
                self.refused(n, [triple for triple in triples if max(triple) < n])
            self.refused(n, list(combinations(range(n), 3)))

    def test_sizes_beyond(self):
        thirteen = sorted(tuple(sorted((k + put) % 13 for k in triple))
                          for triple in ((0, 1, 4), (0, 2, 7)) for put in range(13))
        self.assertTrue(plain_is_triples(13, thirteen))
        for n in (0, -1, -FORTY, 10, 13, FORTY):
            for triples in ([], [(0, 1, 2)], thirteen):
                self.assertIs(is_triples(n, triples), False)

    def test_others_of_one(self):
        for triples in ([(0, 0, 0)], [(0, 0, 1)], [(-1, 0, 1)], [(0, 0, 0)] * 100, [(-FORTY, 0, FORTY)]):
            self.refused(1, triples)


class Squares(unittest.TestCase):
    def test_by_hand(self):
        self.assertEqual(square_of_triples(1, []), [[0]])
        self.assertEqual(square_of_triples(3, [(0, 1, 2)]), [[0, 2, 1], [2, 1, 0], [1, 0, 2]])
        self.assertEqual(triples_of([[0, 2, 1], [2, 1, 0], [1, 0, 2]]), [(0, 1, 2)])
        self.assertEqual(triples_of([[0]]), [])
        self.assertIsNone(triples_of([[0, 1, 2], [1, 2, 0], [2, 0, 1]]))

    def test_there_and_back(self):
        for n, triples in samples(105):
            square = square_of_triples(n, triples)
            self.assertTrue(is_square(square))
            self.assertEqual(square, plain_square(n, triples))
            self.assertTrue(plain_comes_so(square))
            self.assertEqual(triples_of(square), triples)

    def check(self, square):
        told = triples_of(square)
        self.assertEqual(told is not None, plain_comes_so(square))
        if told is not None:
            self.assertTrue(plain_is_triples(len(square), told))
            self.assertEqual(plain_square(len(square), told), square)

    def test_all_of_few_things(self):
        for n in range(1, 5):
            for square in all_squares(n):
                self.check(square)

    def test_others(self):
        draw = Random(106)
        for n, triples in samples(107):
            square = plain_square(n, triples)
            keep = list(range(n))
            for time in range(3):
                rows, columns, things = drawn_renaming(draw, n)
                self.check(plain_renamed(square, (rows, rows, rows)))
                self.assertIsNotNone(triples_of(plain_renamed(square, (rows, rows, rows))))
                for renaming in ((rows, keep, keep), (rows, rows, keep), (keep, keep, things), (rows, columns, things)):
                    self.check(plain_renamed(square, renaming))
        for square in [*drawn_squares(108, range(1, 10), 5), *[round_square(n) for n in range(1, 10)]]:
            self.check(square)

    def test_a_where_row_and_column_are_a_alone(self):
        for square in (EVEN_FIVE, EVEN_SEVEN, CIRCLING_SEVEN):
            for turning in TURNINGS:
                other = plain_turned(square, turning)
                self.assertTrue(all(other[a][a] == a for a in range(len(other))))
                self.assertIsNone(triples_of(other))
        for turning in TURNINGS:
            self.assertEqual(plain_turned(CIRCLING_SEVEN, turning) == CIRCLING_SEVEN, turning in ("ctr", "rct", "trc"))
            self.assertEqual(plain_turned(EVEN_SEVEN, turning) == EVEN_SEVEN, turning in ("crt", "rct"))

    def test_itself_by_all_turnings_alone(self):
        for n in (2, 4, 5, 6, 7, 8, 9):
            square = [[-(a + b) % n for b in range(n)] for a in range(n)]
            self.assertTrue(all(plain_turned(square, turning) == square for turning in TURNINGS))
            self.assertIsNone(triples_of(square))


class Made(unittest.TestCase):
    def test_by_the_words(self):
        self.assertEqual(made_triples(1), [])
        self.assertEqual(made_triples(3), [(0, 1, 2)])
        self.assertEqual(made_triples(7), ONE_SEVEN)
        for n in SIZES:
            self.assertEqual(made_triples(n), plain_made(n))
            self.assertTrue(plain_is_triples(n, made_triples(n)))

    def test_other_numbers(self):
        for n in [*range(-10, 40), FORTY, -FORTY, 10 ** 39 + 7]:
            if n not in SIZES:
                check_refused(self, NoNumber, made_triples, n)


class Own(unittest.TestCase):
    def test_all(self):
        draw = Random(109)
        for n in SIZES:
            first, second = drawn_triples(draw, n), drawn_triples(draw, n)
            check_own(self, is_triples, (n, first), (n, second))
            check_own(self, is_triples, (n, first), (n, first[::-1]))
            check_own(self, square_of_triples, (n, first), (n, second))
            one, other = plain_square(n, first), drawn_square(draw, n)
            check_own(self, triples_of, (one,), (plain_square(n, second),))
            check_own(self, triples_of, (one,), (other,))
            check_own(self, triples_of, (other,), (one,))
            check_own(self, made_triples, (n,), (n,))

    def test_told_ones_changed(self):
        for n in SIZES:
            told = made_triples(n)
            kept = list(told)
            told.append((0, 0, 0))
            self.assertEqual(made_triples(n), kept)
