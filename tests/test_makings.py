import unittest
from random import Random

from squaremates.errors import NoField
from squaremates.fields import plus, times
from squaremates.makings import field_squares, made_set, product, round_square
from tests.helpers import (
    FIELDS, FORTY, check_own, check_refused, drawn_set, drawn_square, is_square, plain_mates,
)
from tests.helpers import round_square as plain_round

SIZES = [(a, b) for a in range(1, 10) for b in range(1, 10) if a * b <= 9]
MADE_SIX = [
    [0, 1, 2, 3, 4, 5], [1, 2, 0, 4, 5, 3], [2, 0, 1, 5, 3, 4],
    [3, 4, 5, 0, 1, 2], [4, 5, 3, 1, 2, 0], [5, 3, 4, 2, 0, 1],
]


def plain_product(one, other):
    a, b = len(one), len(other)
    square = [[None] * (a * b) for r in range(a * b)]
    for r in range(a * b):
        for c in range(a * b):
            (row, row_rest), (column, column_rest) = divmod(r, b), divmod(c, b)
            square[r][c] = b * one[row][column] + other[row_rest][column_rest]
    return square


def each_two(squares):
    return [(one, other) for place, one in enumerate(squares) for other in squares[:place]]


class FieldSquares(unittest.TestCase):
    def test_by_hand(self):
        self.assertEqual(field_squares(2), [[[0, 1], [1, 0]]])
        self.assertEqual(field_squares(3), [[[0, 1, 2], [1, 2, 0], [2, 0, 1]], [[0, 1, 2], [2, 0, 1], [1, 2, 0]]])
        self.assertEqual(field_squares(4), [
            [[0, 1, 2, 3], [1, 0, 3, 2], [2, 3, 0, 1], [3, 2, 1, 0]],
            [[0, 1, 2, 3], [2, 3, 0, 1], [3, 2, 1, 0], [1, 0, 3, 2]],
            [[0, 1, 2, 3], [3, 2, 1, 0], [1, 0, 3, 2], [2, 3, 0, 1]],
        ])
        self.assertEqual(field_squares(9)[2][3], [2, 0, 1, 5, 3, 4, 8, 6, 7])

    def test_cell_by_cell(self):
        for q in FIELDS:
            squares = field_squares(q)
            self.assertIsInstance(squares, list)
            self.assertEqual(len(squares), q - 1)
            for m in range(1, q):
                self.assertEqual(len(squares[m - 1]), q)
                for r in range(q):
                    self.assertEqual(len(squares[m - 1][r]), q)
                    for c in range(q):
                        self.assertEqual(squares[m - 1][r][c], plus(q, times(q, m, r), c), (q, m, r, c))

    def test_each_two_are_mates(self):
        for q in FIELDS:
            squares = field_squares(q)
            for square in squares:
                self.assertTrue(is_square(square))
            for one, other in each_two(squares):
                self.assertTrue(plain_mates(one, other))

    def test_every_other_number_refused(self):
        others = [q for q in range(-30, 130) if q not in FIELDS]
        for q in [*others, FORTY, -FORTY, 10 ** 39, -10 ** 39, 2 ** 130, 3 ** 80]:
            check_refused(self, NoField, field_squares, q)


class RoundSquares(unittest.TestCase):
    def test_by_hand(self):
        self.assertEqual(round_square(1), [[0]])
        self.assertEqual(round_square(2), [[0, 1], [1, 0]])
        self.assertEqual(round_square(4), [[0, 1, 2, 3], [1, 2, 3, 0], [2, 3, 0, 1], [3, 0, 1, 2]])

    def test_one_to_nine(self):
        for n in range(1, 10):
            square = round_square(n)
            self.assertTrue(is_square(square))
            for r in range(n):
                for c in range(n):
                    self.assertEqual(square[r][c], r + c if r + c < n else r + c - n)


class Products(unittest.TestCase):
    def test_by_hand(self):
        two, three = [[1, 0], [0, 1]], [[0, 1, 2], [2, 0, 1], [1, 2, 0]]
        self.assertEqual(product(two, three), [
            [3, 4, 5, 0, 1, 2], [5, 3, 4, 2, 0, 1], [4, 5, 3, 1, 2, 0],
            [0, 1, 2, 3, 4, 5], [2, 0, 1, 5, 3, 4], [1, 2, 0, 4, 5, 3],
        ])
        self.assertEqual(product(three, two), [
            [1, 0, 3, 2, 5, 4], [0, 1, 2, 3, 4, 5], [5, 4, 1, 0, 3, 2],
            [4, 5, 0, 1, 2, 3], [3, 2, 5, 4, 1, 0], [2, 3, 4, 5, 0, 1],
        ])
        self.assertEqual(product([[0]], [[0]]), [[0]])

    def test_all_sizes(self):
        draw = Random(11)
        self.assertIn((3, 3), SIZES)
        for a, b in SIZES:
            for time in range(4):
                one, other = drawn_square(draw, a), drawn_square(draw, b)
                told = product(one, other)
                self.assertTrue(is_square(told))
                self.assertEqual(told, plain_product(one, other))

    def test_with_one_thing(self):
        for n in range(1, 10):
            square = drawn_square(Random(n), n)
            self.assertEqual(product([[0]], square), square)
            self.assertEqual(product(square, [[0]]), square)

    def mates(self, draw, n):
        """Two squares of n things that are mates, or none."""
        if n in (2, 6):
            return None
        return [[[0]], [[0]]] if n == 1 else drawn_set(draw, n, 2)

    def test_products_of_mates_are_mates(self):
        draw = Random(12)
        for a, b in SIZES:
            for time in range(3):
                firsts, others = self.mates(draw, a), self.mates(draw, b)
                if firsts is not None and others is not None:
                    one, other = [product(first, second) for first, second in zip(firsts, others)]
                    self.assertTrue(plain_mates(one, other), (a, b))


class MadeSets(unittest.TestCase):
    def test_one_and_six(self):
        self.assertEqual(made_set(1), [[[0]]])
        self.assertEqual(made_set(6), [MADE_SIX])
        self.assertEqual(made_set(6), [plain_product(field_squares(2)[0], field_squares(3)[0])])

    def test_fields(self):
        for q in FIELDS:
            self.assertEqual(made_set(q), field_squares(q))

    def test_mates_two_by_two(self):
        for n in range(1, 10):
            told = made_set(n)
            self.assertTrue(all(is_square(square) and len(square) == n for square in told))
            for one, other in each_two(told):
                self.assertTrue(plain_mates(one, other))

    def test_beyond_the_sizes_no_error(self):
        for n in (-FORTY, -1, 0, 10, 11, 12, FORTY):
            self.assertIsInstance(made_set(n), list)


class Own(unittest.TestCase):
    def test_by_numbers(self):
        for q in FIELDS:
            check_own(self, field_squares, (q,), (q,))
        for n in range(1, 10):
            check_own(self, round_square, (n,), (n,))
            check_own(self, made_set, (n,), (n,))

    def test_products(self):
        draw = Random(13)
        for a, b in SIZES:
            first = (drawn_square(draw, a), drawn_square(draw, b))
            check_own(self, product, first, (drawn_square(draw, a), drawn_square(draw, b)))
        for n in (1, 2, 3):
            square = plain_round(n)
            self.assertEqual(product(square, square), plain_product(square, square))
            self.assertEqual(square, plain_round(n))
