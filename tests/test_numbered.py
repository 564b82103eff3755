import unittest
from itertools import permutations
from math import factorial
from random import Random

from squaremates.errors import NoNumber
from squaremates.numbered import behind, count, first_count, going_on, number_of, square_at
from tests.helpers import (
    FORTY, all_orders, all_squares, check_own, check_refused, drawn_order, drawn_square, drawn_squares, is_square,
    round_square,
)

COUNTS = {1: 1, 2: 2, 3: 12, 4: 576, 5: 161280}
FIRST_COUNTS = {1: 1, 2: 1, 3: 1, 4: 4, 5: 56}
SMALL = {n: all_squares(n) for n in (1, 2, 3, 4)}


def squares_below(n, first):
    """All squares of n things with this first row, in order, by rows put below each other."""
    found = [[list(first)]]
    for r in range(1, n):
        found = [[*rows, list(order)] for rows in found for order in permutations(range(n))
                 if all(row[c] != order[c] for row in rows for c in range(n))]
    return found


FIVES = squares_below(5, range(5))


def drawn_rows(draw, n):
    """A list of none to n rows that a square begins with."""
    return drawn_square(draw, n)[:draw.randrange(n + 1)]


class Counts(unittest.TestCase):
    def test_counts(self):
        for n in COUNTS:
            self.assertEqual(count(n), COUNTS[n])
            self.assertEqual(first_count(n), FIRST_COUNTS[n])
            self.assertEqual(count(n), factorial(n) * factorial(n - 1) * first_count(n))

    def test_plain_going_through(self):
        for n in SMALL:
            self.assertEqual(count(n), len(SMALL[n]))
            firsts = [square for square in SMALL[n]
                      if square[0] == [row[0] for row in square] == list(range(n))]
            self.assertEqual(first_count(n), len(firsts))
        self.assertEqual(count(5), factorial(5) * len(FIVES))
        self.assertEqual(first_count(5), len([square for square in FIVES
                                              if [row[0] for row in square] == [0, 1, 2, 3, 4]]))


class Numbers(unittest.TestCase):
    def test_by_hand(self):
        self.assertEqual(number_of([[0]]), 0)
        self.assertEqual(square_at(1, 0), [[0]])
        self.assertEqual(square_at(2, 1), [[1, 0], [0, 1]])
        self.assertEqual(number_of([[0, 1, 2], [1, 2, 0], [2, 0, 1]]), 0)
        self.assertEqual(number_of([[0, 1, 2], [2, 0, 1], [1, 2, 0]]), 1)
        self.assertEqual(square_at(3, 11), [[2, 1, 0], [1, 0, 2], [0, 2, 1]])
        self.assertEqual(square_at(5, 0), [[0, 1, 2, 3, 4], [1, 0, 3, 4, 2], [2, 3, 4, 0, 1],
                                           [3, 4, 1, 2, 0], [4, 2, 0, 1, 3]])

    def test_all_of_few_things(self):
        for n in SMALL:
            self.assertEqual(SMALL[n], sorted(SMALL[n]))
            for number, square in enumerate(SMALL[n]):
                self.assertEqual(number_of(square), number)
                self.assertEqual(square_at(n, number), square)

    def test_five_things(self):
        """The first row tells how many blocks of squares are ahead, each as great as the first one."""
        draw = Random(130)
        orders = all_orders(5)
        for rank in (0, 1, 60, 119, draw.randrange(120)):
            block = FIVES if rank == 0 else squares_below(5, orders[rank])
            self.assertEqual(len(block), len(FIVES))
            for place in {0, 1, len(block) - 1, *draw.sample(range(len(block)), 25)}:
                number = rank * len(FIVES) + place
                self.assertEqual(number_of(block[place]), number)
                self.assertEqual(square_at(5, number), block[place])

    def test_there_and_back(self):
        told = []
        for number in [*range(0, 161280, 997), 161278, 161279]:
            square = square_at(5, number)
            self.assertTrue(is_square(square))
            self.assertEqual(number_of(square), number)
            told.append(square)
        self.assertEqual(told, sorted(told))
        for square in drawn_squares(131, [5], 60):
            self.assertEqual(square_at(5, number_of(square)), square)

    def test_no_such_number(self):
        for n in COUNTS:
            for number in (-1, -2, -COUNTS[n], COUNTS[n], COUNTS[n] + 1, 2 * COUNTS[n], FORTY, -FORTY, 10 ** 39):
                check_refused(self, NoNumber, square_at, n, number)


    def test_sizes_that_no_square_has(self):
        for n in (0, -1, 10, FORTY, -FORTY):
            self.assertEqual((count(n), first_count(n), going_on(n, [])), (0, 0, 0))
            for number in (0, 1, -1, FORTY):
                check_refused(self, NoNumber, square_at, n, number)


class Behind(unittest.TestCase):
    def test_all_of_few_things(self):
        for n in SMALL:
            square = SMALL[n][0]
            for other in SMALL[n][1:]:
                square = behind(square)
                self.assertEqual(square, other)
            self.assertIsNone(behind(square))

    def test_five_things(self):
        draw = Random(132)
        for place in [0, *draw.sample(range(len(FIVES) - 1), 60)]:
            self.assertEqual(behind(FIVES[place]), FIVES[place + 1])
        self.assertEqual(behind(FIVES[-1]), squares_below(5, [0, 1, 2, 4, 3])[0])
        last = squares_below(5, [4, 3, 2, 1, 0])
        self.assertEqual(behind(last[-2]), last[-1])
        self.assertIsNone(behind(last[-1]))


class GoingOn(unittest.TestCase):
    def test_by_hand(self):
        self.assertEqual(going_on(1, []), 1)
        self.assertEqual(going_on(1, [[0]]), 1)
        self.assertEqual(going_on(3, [[0, 1, 2]]), 2)
        self.assertEqual(going_on(3, [[0, 1, 2], [2, 0, 1]]), 1)
        self.assertEqual(going_on(4, [[0, 1, 2, 3], [1, 0, 3, 2]]), 4)
        self.assertEqual(going_on(4, [[0, 1, 2, 3], [1, 2, 3, 0]]), 2)
        self.assertEqual(going_on(5, []), 161280)
        self.assertEqual(going_on(5, [[4, 0, 3, 1, 2]]), 1344)

    def test_plain_going_through(self):
        for n in SMALL:
            for square in SMALL[n][::1 if n < 4 else 7]:
                for many in range(n + 1):
                    rows = square[:many]
                    self.assertEqual(going_on(n, rows), sum(other[:many] == rows for other in SMALL[n]))

    def test_five_things(self):
        draw = Random(133)
        for square in draw.sample(FIVES, 40):
            for many in range(1, 6):
                rows = square[:many]
                told = going_on(5, rows)
                self.assertEqual(told, sum(other[:many] == rows for other in FIVES))
                # With the columns in another order, and the things named otherwise, as many go on.
                columns, things = drawn_order(draw, 5), drawn_order(draw, 5)
                other = [[things[row[c]] for c in columns] for row in rows]
                self.assertEqual(going_on(5, other), told)

    def test_sum_over_the_next_row(self):
        draw = Random(134)
        for n in range(1, 6):
            for time in range(12):
                rows = drawn_rows(draw, n)
                if len(rows) == n:
                    self.assertEqual(going_on(n, rows), 1)
                    continue
                nexts = [order for order in all_orders(n) if all(row[c] != order[c] for row in rows for c in range(n))]
                self.assertEqual(going_on(n, rows), sum(going_on(n, [*rows, order]) for order in nexts))

    def test_rows_that_no_square_has(self):
        self.assertEqual(going_on(2, [[0, 1], [0, 1]]), 0)
        self.assertEqual(going_on(3, [[0, 1, 2], [0, 2, 1]]), 0)
        self.assertEqual(going_on(3, [[0, 1, 1]]), 0)
        self.assertEqual(going_on(3, [[0, 1, FORTY]]), 0)
        self.assertEqual(going_on(1, [[0], [0]]), 0)


class Own(unittest.TestCase):
    def test_of_numbers(self):
        for n in COUNTS:
            check_own(self, count, (n,), (n,))
            check_own(self, first_count, (n,), (n,))
            for number in {0, COUNTS[n] // 2, COUNTS[n] - 1}:
                check_own(self, square_at, (n, number), (n, number))

    def test_of_squares(self):
        draw = Random(135)
        for n in COUNTS:
            first, second = drawn_square(draw, n), round_square(n)
            last = square_at(n, COUNTS[n] - 1)
            for function in (number_of, behind):
                check_own(self, function, (first,), (second,))
                check_own(self, function, (second,), (last,))
                check_own(self, function, (last,), (first,))
            for many in range(n + 1):
                check_own(self, going_on, (n, first[:many]), (n, second[:many]))

    def test_refused_then_not(self):
        told = square_at(4, 17)
        check_refused(self, NoNumber, square_at, 4, 576)
        self.assertEqual(square_at(4, 17), told)
