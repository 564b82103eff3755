import unittest
from itertools import product
from random import Random

from squaremates.ways import first_way, is_way, through, ways
from tests.helpers import (
    FORTY, FOUR_ONCE, UNEVEN, WAYLESS_SIX, all_orders, check_own, drawn_order, drawn_square, drawn_squares,
    plain_is_way, plain_ways, round_square,
)

SAMPLES = [
    *drawn_squares(17, range(1, 7), 5), *[round_square(n) for n in range(1, 7)], *UNEVEN.values(),
    *WAYLESS_SIX, FOUR_ONCE,
]


def cells_of(n):
    return [(r, c) for r in range(n) for c in range(n)]


def goes_through(way, cells):
    return all(way[r] == c for r, c in cells)


class IsWay(unittest.TestCase):
    def test_by_hand(self):
        square = [[0, 1, 2], [1, 2, 0], [2, 0, 1]]
        self.assertTrue(is_way(square, [0, 1, 2]))
        self.assertTrue(is_way(square, [2, 0, 1]))
        self.assertFalse(is_way(square, [0, 2, 1]))
        self.assertFalse(is_way(square, [0, 0, 0]))
        self.assertFalse(is_way(square, [0, 1]))
        self.assertFalse(is_way([[0, 1], [1, 0]], [0, 1]))
        self.assertTrue(is_way([[0]], [0]))

    def test_all_lists_of_small_numbers(self):
        for square in ([[0]], [[0, 1], [1, 0]], *drawn_squares(1, [3], 2), round_square(3)):
            for length in range(6):
                for way in product(range(-3, 5), repeat=length) if length <= 4 else [(0, 1, 2, 3, 4)]:
                    told = is_way(square, list(way))
                    self.assertIs(told, plain_is_way(square, way), (square, way))

    def test_all_orders(self):
        for square in SAMPLES:
            for order in all_orders(len(square)):
                self.assertIs(is_way(square, order), plain_is_way(square, order))

    def test_sizes_to_nine(self):
        for n in (7, 8, 9):
            found = 0
            for time in range(2000):
                draw = Random(time)
                order = drawn_order(draw, n)
                self.assertIs(is_way(round_square(n), order), plain_is_way(round_square(n), order))
                found += is_way(round_square(n), order)
            self.assertEqual(found > 0, n != 8)
            straight = list(range(n))
            self.assertIs(is_way(round_square(n), straight), n != 8)
            square = drawn_square(Random(n), n)
            for r in range(n):
                square[0], square[r] = square[r], square[0]
                self.assertIs(is_way(square, straight), plain_is_way(square, straight))

    def test_wrong_lists(self):
        for square in SAMPLES:
            n = len(square)
            for way in plain_ways(square)[:3]:
                for bad in ([], way[:-1], way[1:], [*way, 0], [*way, n], [*way, *way], [0] * 100,
                            [*way[:-1], FORTY], [-FORTY, *way[1:]], [c - n for c in way], [c + n for c in way],
                            [*way[:-1], way[-1] - n], [*way[:-1], -1], [*way[:-1], n]):
                    self.assertIs(is_way(square, bad), False, bad)
                if n > 1:
                    self.assertIs(is_way(square, [way[1], *way[1:]]), False)


class Ways(unittest.TestCase):
    def test_by_hand(self):
        self.assertEqual(ways([[0]]), [[0]])
        self.assertEqual(ways([[0, 1], [1, 0]]), [])
        self.assertEqual(ways([[0, 1, 2], [1, 2, 0], [2, 0, 1]]), [[0, 1, 2], [1, 2, 0], [2, 0, 1]])
        self.assertEqual(ways(FOUR_ONCE), [
            [0, 2, 3, 1], [0, 3, 1, 2], [1, 2, 0, 3], [1, 3, 2, 0],
            [2, 0, 1, 3], [2, 1, 3, 0], [3, 0, 2, 1], [3, 1, 0, 2],
        ])

    def test_how_many(self):
        self.assertEqual([len(ways(round_square(n))) for n in range(1, 7)], [1, 0, 3, 0, 15, 0])

    def test_all_in_order(self):
        some_of_each_size = {(n, False) for n in (1, 3, 4, 5, 6)} | {(n, True) for n in (2, 4, 6)}
        seen = set()
        for square in SAMPLES:
            told = ways(square)
            self.assertEqual(told, plain_ways(square))
            self.assertEqual(told, sorted(told))
            seen.add((len(square), told == []))
        self.assertEqual(seen, some_of_each_size)


class FirstWay(unittest.TestCase):
    def check(self, square, cells):
        found = [way for way in plain_ways(square) if goes_through(way, cells)]
        told = first_way(square, list(cells))
        self.assertEqual(told, found[0] if found else None, (square, cells))
        return told

    def test_by_hand(self):
        square = round_square(3)
        self.assertEqual(first_way(square, []), [0, 1, 2])
        self.assertEqual(first_way(square, [(2, 0)]), [1, 2, 0])
        self.assertEqual(first_way(square, [(2, 0), (0, 1), (2, 0)]), [1, 2, 0])
        self.assertIsNone(first_way(square, [(2, 0), (0, 0)]))
        self.assertIsNone(first_way(square, [(1, 0), (0, 2), (1, 1)]))
        self.assertIsNone(first_way(square, [(0, 1), (1, 0)]))
        self.assertEqual(first_way([[0]], [(0, 0), (0, 0)]), [0])
        self.assertIsNone(first_way([[0, 1], [1, 0]], []))

    def test_none_and_one_cell(self):
        for square in SAMPLES:
            self.check(square, [])
            for cell in cells_of(len(square)):
                self.check(square, [cell])
                self.check(square, [cell] * 100)

    def test_two_cells(self):
        for square in SAMPLES:
            if len(square) <= 4:
                for one in cells_of(len(square)):
                    for other in cells_of(len(square)):
                        self.check(square, [one, other])

    def test_some_cells_of_a_way(self):
        draw = Random(21)
        for square in SAMPLES:
            for way in plain_ways(square)[:6]:
                for many in range(len(square) + 1):
                    cells = draw.sample(list(enumerate(way)), many)
                    cells += draw.choices(cells, k=3) if cells else []
                    draw.shuffle(cells)
                    self.assertIsNotNone(self.check(square, cells))

    def test_drawn_cells(self):
        draw = Random(22)
        for square in SAMPLES:
            for many in (2, 3, 4, 100):
                for time in range(2):
                    self.check(square, draw.choices(cells_of(len(square)), k=many))

    def test_clashing_cells(self):
        for square in SAMPLES:
            n = len(square)
            for r, c in cells_of(n) if n > 1 else []:
                in_row, in_column = (r, (c + 1) % n), ((r + 1) % n, c)
                like = ((r + 1) % n, square[(r + 1) % n].index(square[r][c]))
                for other in (in_row, in_column, like):
                    self.assertIsNone(first_way(square, [(r, c), other]))
                    self.assertIsNone(first_way(square, [other, (r, c), (r, c), other]))


class Through(unittest.TestCase):
    def test_by_hand(self):
        self.assertEqual(through([[0]]), [[1]])
        self.assertEqual(through(round_square(2)), [[0, 0], [0, 0]])
        self.assertEqual(through(round_square(3)), [[1, 1, 1], [1, 1, 1], [1, 1, 1]])

    def test_cell_by_cell(self):
        unlike = 0
        for square in SAMPLES:
            n = len(square)
            known = plain_ways(square)
            told = through(square)
            self.assertEqual(told, [[len([way for way in known if way[r] == c]) for c in range(n)] for r in range(n)])
            unlike += len({many for row in told for many in row}) > 1
        self.assertGreater(unlike, 3)

    def test_rows_columns_and_things_come_to_all(self):
        for square in SAMPLES:
            n = len(square)
            told, many = through(square), len(plain_ways(square))
            self.assertEqual([sum(row) for row in told], [many] * n)
            self.assertEqual([sum(column) for column in zip(*told)], [many] * n)
            for thing in range(n):
                self.assertEqual(sum(told[r][row.index(thing)] for r, row in enumerate(square)), many)


class Own(unittest.TestCase):
    def test_each_function(self):
        draw = Random(23)
        for n in range(1, 7):
            one, other = drawn_square(draw, n), drawn_square(draw, n)
            check_own(self, ways, (one,), (other,))
            check_own(self, ways, (one,), (round_square(n),))
            check_own(self, through, (one,), (other,))
            orders = drawn_order(draw, n), drawn_order(draw, n)
            check_own(self, is_way, (one, orders[0]), (other, orders[1]))
            for way in plain_ways(one)[:3]:
                check_own(self, is_way, (one, way), (one, way[::-1]))
            cells = draw.choices(cells_of(n), k=2)
            check_own(self, first_way, (one, []), (other, cells))
            check_own(self, first_way, (one, cells), (one, []))
