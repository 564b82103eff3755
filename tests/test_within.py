import unittest
from itertools import combinations
from random import Random

from squaremates.makings import field_squares, product
from squaremates.squares import look_at_square
from squaremates.within import content, part_squares, put_in
from tests.helpers import (
    FORTY, FOUR_ONCE, all_squares, check_own, drawn_renaming, drawn_square, drawn_squares, is_square,
    plain_renamed, round_square,
)


def drawn_products(seed):
    """Squares with part squares of many sizes, their rows, columns and things named otherwise."""
    draw = Random(seed)
    found = []
    for a, b in ((2, 2), (2, 3), (3, 2), (2, 4), (4, 2), (3, 3)):
        square = product(drawn_square(draw, a), drawn_square(draw, b))
        found.append(plain_renamed(square, drawn_renaming(draw, a * b)))
    return found


SAMPLES = [
    *drawn_squares(120, range(1, 10), 2), *[round_square(n) for n in range(1, 10)], *drawn_products(121),
    FOUR_ONCE, field_squares(8)[1], field_squares(9)[4],
]


def plain_parts(square, k):
    n = len(square)
    return [(list(rows), list(columns)) for rows in combinations(range(n), k) for columns in combinations(range(n), k)
            if len({square[r][c] for r in rows for c in columns}) == k]


def some_parts(seed):
    """Squares with a part square of each size that they have."""
    draw = Random(seed)
    for square in SAMPLES:
        for k in range(1, len(square) + 1):
            known = plain_parts(square, k)
            for rows, columns in draw.sample(known, min(3, len(known))):
                yield square, rows, columns


class Parts(unittest.TestCase):
    def test_by_hand(self):
        square = [[0, 1, 2, 3], [1, 0, 3, 2], [2, 3, 1, 0], [3, 2, 0, 1]]
        self.assertEqual(part_squares(square, 2), [([0, 1], [0, 1]), ([0, 1], [2, 3]), ([2, 3], [0, 1]),
                                                   ([2, 3], [2, 3])])
        self.assertEqual(part_squares(square, 3), [])
        self.assertEqual(part_squares(square, 4), [([0, 1, 2, 3], [0, 1, 2, 3])])
        self.assertEqual(part_squares([[0]], 1), [([0], [0])])

    def test_plain_going_through(self):
        for square in SAMPLES:
            for k in range(1, len(square) + 1):
                told = part_squares(square, k)
                self.assertEqual(told, plain_parts(square, k))
                self.assertEqual(told, sorted(told))
                self.assertTrue(all(isinstance(part, tuple) for part in told))

    def test_all_of_few_things(self):
        for n in (1, 2, 3):
            for square in all_squares(n):
                for k in range(1, n + 1):
                    self.assertEqual(part_squares(square, k), plain_parts(square, k))
        for square in all_squares(4)[::5]:
            self.assertEqual(part_squares(square, 2), plain_parts(square, 2))

    def test_one_and_all(self):
        for square in SAMPLES:
            n = len(square)
            self.assertEqual(part_squares(square, 1), [([r], [c]) for r in range(n) for c in range(n)])
            self.assertEqual(part_squares(square, n), [(list(range(n)), list(range(n)))])

    def test_none_above_half(self):
        for square in SAMPLES:
            n = len(square)
            for k in range(n // 2 + 1, n):
                self.assertEqual(part_squares(square, k), [])

    def test_none_beyond(self):
        for square in SAMPLES:
            for k in (0, -1, -FORTY, len(square) + 1, FORTY):
                self.assertEqual(part_squares(square, k), [])


class Content(unittest.TestCase):
    def test_by_hand(self):
        square = [[0, 1, 2, 3], [1, 0, 3, 2], [2, 3, 1, 0], [3, 2, 0, 1]]
        self.assertEqual(content(square, [2, 3], [0, 1]), [[0, 1], [1, 0]])
        self.assertEqual(content(square, [2, 3], [2, 3]), [[1, 0], [0, 1]])
        self.assertEqual(content(square, [3], [0]), [[0]])
        self.assertEqual(content(square, [0, 1, 2, 3], [0, 1, 2, 3]), square)

    def test_squares(self):
        sizes = set()
        for square, rows, columns in some_parts(122):
            told = content(square, rows, columns)
            self.assertTrue(is_square(told))
            self.assertIsNone(look_at_square(told))
            self.assertEqual(len(told), len(rows))
            things = sorted({square[r][c] for r in rows for c in columns})
            self.assertEqual([[things[thing] for thing in row] for row in told],
                             [[square[r][c] for c in columns] for r in rows])
            sizes.add((len(square), len(rows)))
        self.assertTrue({(4, 2), (6, 2), (6, 3), (8, 2), (8, 4), (9, 3), (9, 9), (1, 1)} <= sizes)


class PutIn(unittest.TestCase):
    def test_by_hand(self):
        square = [[0, 1, 2, 3], [1, 0, 3, 2], [2, 3, 1, 0], [3, 2, 0, 1]]
        self.assertEqual(put_in(square, [0, 1], [2, 3], [[1, 0], [0, 1]]),
                         [[0, 1, 3, 2], [1, 0, 2, 3], [2, 3, 1, 0], [3, 2, 0, 1]])
        self.assertEqual(put_in(square, [1], [1], [[0]]), square)

    def test_squares(self):
        draw = Random(123)
        changed = 0
        for square, rows, columns in some_parts(124):
            k, n = len(rows), len(square)
            self.assertEqual(put_in(square, rows, columns, content(square, rows, columns)), square)
            for other in (drawn_square(draw, k), round_square(k), drawn_square(draw, k)):
                told = put_in(square, rows, columns, other)
                self.assertTrue(is_square(told))
                self.assertEqual(content(told, rows, columns), other)
                for r in range(n):
                    for c in range(n):
                        if r not in rows or c not in columns:
                            self.assertEqual(told[r][c], square[r][c])
                things = sorted({square[r][c] for r in rows for c in columns})
                self.assertEqual([[told[r][c] for c in columns] for r in rows],
                                 [[things[thing] for thing in row] for row in other])
                changed += told != square
        self.assertGreater(changed, 50)


class Own(unittest.TestCase):
    def test_parts(self):
        draw = Random(125)
        for square in SAMPLES:
            n = len(square)
            other = drawn_square(draw, n)
            for k in range(1, n + 1):
                check_own(self, part_squares, (square, k), (other, k))

    def test_contents(self):
        draw = Random(126)
        for square, rows, columns in some_parts(127):
            k = len(rows)
            others = [part for part in plain_parts(square, k) if part != (rows, columns)] or [(rows, columns)]
            other_rows, other_columns = draw.choice(others)
            check_own(self, content, (square, rows, columns), (square, other_rows, other_columns))
            one, other = drawn_square(draw, k), round_square(k)
            check_own(self, put_in, (square, rows, columns, one), (square, other_rows, other_columns, other))
