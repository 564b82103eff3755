import unittest
from random import Random

from squaremates.errors import MateError, NoOrder, NoSquare, NoTurning
from squaremates.squares import back, cells, joined, joined_turnings, look_at_square, renamed, turned
from tests.helpers import (
    FORTY, TURNINGS, all_orders, all_squares, cell_set, check_own, check_refused, drawn_order, drawn_renaming,
    drawn_square, drawn_squares, is_square, plain_renamed, plain_turned, round_square,
)

SAMPLES = drawn_squares(4, range(1, 10), 4)
WRONG_TURNINGS = [
    "", "r", "c", "t", "rc", "rr", "rrr", "rct ", " rct", "rctr", "rctt", "rrct", "rcc", "rrt", "ctt", "tct",
    "RCT", "Rct", "rcT", "CRT", "rcx", "abc", "r,c", "rct\n", "crtcrt", "012", "rct" * 30,
]


class Looked(unittest.TestCase):
    def refused_at(self, square, place):
        error = check_refused(self, NoSquare, look_at_square, square)
        self.assertEqual(error.place, place, square)
        self.assertIsInstance(error, MateError)
        self.assertIsInstance(error, ValueError)

    def with_row(self, n, r, row):
        square = round_square(n)
        square[r] = row
        return square

    def test_squares_of_all_sizes_let_by(self):
        for square in [*SAMPLES, *[round_square(n) for n in range(1, 10)]]:
            self.assertIsNone(look_at_square(square))

    def test_all_lists_of_orders_of_three(self):
        squares = all_squares(3)
        self.assertEqual(len(squares), 12)
        for one in all_orders(3):
            for two in all_orders(3):
                for three in all_orders(3):
                    rows = [one, two, three]
                    if rows in squares:
                        self.assertIsNone(look_at_square(rows))
                    else:
                        twice = [c for c in range(3) if len({row[c] for row in rows}) < 3]
                        self.refused_at(rows, 3 + twice[0])

    def test_number_of_rows(self):
        self.refused_at([], -1)
        for n in (10, 11, 12, 100):
            self.refused_at(round_square(n), -1)
            self.refused_at([[] for r in range(n)], -1)
            self.refused_at([[0] for r in range(n)], -1)

    def test_first_bad_row(self):
        for n in range(1, 10):
            good = list(range(n))
            bad_rows = [
                [], good[:-1], [*good, n], [*good, 0], [*good, *good], [0] * 100, [n] * n,
                [*good[:-1], n], [*good[:-1], -1], [-1, *good[1:]], [*good[:-1], FORTY], [*good[:-1], -FORTY],
                [k + 1 for k in good], [k - 1 for k in good], [-k for k in good] if n > 1 else [1],
            ]
            if n > 1:
                bad_rows += [[*good[:-1], 0], [good[1], *good[1:]], [0] * n, [*good, good[-1]]]
            for bad in bad_rows:
                for r in range(n):
                    self.refused_at(self.with_row(n, r, list(bad)), r)

    def test_first_of_several_bad_rows_ahead_of_columns(self):
        self.refused_at([[0, 1, 2], [0, 1], [5, 5, 5]], 1)
        self.refused_at([[0, 1, 2], [0, 1, 2], [0, 1, 3]], 2)
        self.refused_at([[0, 0], [1, 1]], 0)
        self.refused_at([[0, 1], [1, 1]], 1)
        self.refused_at([[], []], 0)
        self.refused_at([[1]], 0)

    def test_first_bad_column(self):
        self.refused_at([[0, 1], [0, 1]], 2)
        self.refused_at([[0, 1, 2], [1, 0, 2], [2, 1, 0]], 4)
        self.refused_at([[0, 1, 2], [1, 0, 2], [2, 0, 1]], 4)
        self.refused_at([[0, 1, 2, 3], [1, 0, 3, 2], [2, 3, 0, 1], [3, 2, 0, 1]], 6)
        for n in range(2, 10):
            same = [list(range(n)) for r in range(n)]
            self.refused_at(same, n)
            for c in range(n - 1):
                square = round_square(n)
                square[n - 1][c], square[n - 1][c + 1] = square[n - 1][c + 1], square[n - 1][c]
                self.refused_at(square, n + c)


class Cells(unittest.TestCase):
    def test_told_rising(self):
        self.assertEqual(cells([[0]]), [(0, 0, 0)])
        self.assertEqual(cells([[1, 0], [0, 1]]), [(0, 0, 1), (0, 1, 0), (1, 0, 0), (1, 1, 1)])
        for square in SAMPLES:
            told = cells(square)
            self.assertIsInstance(told, list)
            self.assertEqual(told, sorted(cell_set(square)))
            self.assertTrue(all(isinstance(cell, tuple) for cell in told))


class Turned(unittest.TestCase):
    def test_by_hand(self):
        square = [[1, 2, 0], [0, 1, 2], [2, 0, 1]]
        self.assertEqual(turned(square, "rct"), square)
        self.assertEqual(turned(square, "crt"), [[1, 0, 2], [2, 1, 0], [0, 2, 1]])
        self.assertEqual(turned(square, "rtc"), [[2, 0, 1], [0, 1, 2], [1, 2, 0]])
        self.assertEqual(turned(square, "tcr"), [[1, 2, 0], [0, 1, 2], [2, 0, 1]])
        self.assertEqual(turned(square, "ctr"), [[1, 0, 2], [2, 1, 0], [0, 2, 1]])
        self.assertEqual(turned(square, "trc"), [[2, 0, 1], [0, 1, 2], [1, 2, 0]])

    def test_all_six_by_cells(self):
        for square in SAMPLES:
            for turning in TURNINGS:
                told = turned(square, turning)
                self.assertTrue(is_square(told))
                self.assertEqual(told, plain_turned(square, turning))

    def test_rows_and_columns_exchanged(self):
        for square in SAMPLES:
            self.assertEqual(turned(square, "rct"), square)
            self.assertEqual(turned(square, "crt"), [list(column) for column in zip(*square)])

    def test_other_texts_refused(self):
        for text in WRONG_TURNINGS:
            check_refused(self, NoTurning, turned, round_square(3), text)


class JoinedTurnings(unittest.TestCase):
    def test_first_handed_in_comes_first(self):
        self.assertEqual(joined_turnings("crt", "tcr"), "trc")
        self.assertEqual(joined_turnings("tcr", "crt"), "ctr")
        squares = [square for square in SAMPLES if len(square) > 4]
        for one in TURNINGS:
            for other in TURNINGS:
                told = joined_turnings(one, other)
                self.assertIn(told, TURNINGS)
                for square in squares:
                    self.assertEqual(turned(square, told), turned(turned(square, one), other))

    def test_each_leads_home(self):
        for one in TURNINGS:
            self.assertEqual(joined_turnings("rct", one), one)
            self.assertEqual(joined_turnings(one, "rct"), one)
            home = [other for other in TURNINGS if joined_turnings(one, other) == "rct"]
            self.assertEqual(len(home), 1)
            for square in SAMPLES:
                self.assertEqual(turned(turned(square, one), home[0]), square)

    def test_other_texts_refused_at_either_place(self):
        for text in WRONG_TURNINGS:
            for turning in TURNINGS:
                check_refused(self, NoTurning, joined_turnings, text, turning)
                check_refused(self, NoTurning, joined_turnings, turning, text)
            check_refused(self, NoTurning, joined_turnings, text, text)


class Renamed(unittest.TestCase):
    def test_by_hand(self):
        square = [[0, 1, 2], [1, 2, 0], [2, 0, 1]]
        self.assertEqual(renamed(square, ([1, 0, 2], [0, 1, 2], [0, 1, 2])), [[1, 2, 0], [0, 1, 2], [2, 0, 1]])
        self.assertEqual(renamed(square, ([1, 2, 0], [0, 1, 2], [0, 1, 2])), [[2, 0, 1], [0, 1, 2], [1, 2, 0]])
        self.assertEqual(renamed(square, ([0, 1, 2], [1, 2, 0], [0, 1, 2])), [[2, 0, 1], [0, 1, 2], [1, 2, 0]])
        self.assertEqual(renamed(square, ([0, 1, 2], [0, 1, 2], [1, 2, 0])), [[1, 2, 0], [2, 0, 1], [0, 1, 2]])
        self.assertEqual(renamed([[0]], ([0], [0], [0])), [[0]])
        self.assertEqual(joined(([1, 2, 0], [0, 1, 2], [1, 0, 2]), ([1, 0, 2], [2, 0, 1], [1, 2, 0])),
                         ([0, 2, 1], [2, 0, 1], [2, 1, 0]))
        self.assertEqual(back(([1, 2, 0], [0, 1, 2], [2, 0, 1])), ([2, 0, 1], [0, 1, 2], [1, 2, 0]))

    def test_against_each_other(self):
        draw = Random(6)
        for square in SAMPLES:
            n = len(square)
            home = (list(range(n)), list(range(n)), list(range(n)))
            one, other = drawn_renaming(draw, n), drawn_renaming(draw, n)
            there = renamed(square, one)
            self.assertEqual(there, plain_renamed(square, one))
            self.assertTrue(is_square(there))
            self.assertEqual(renamed(square, joined(one, other)), renamed(there, other))
            self.assertEqual(renamed(there, back(one)), square)
            self.assertEqual(renamed(square, home), square)
            self.assertEqual(joined(one, back(one)), home)
            self.assertEqual(joined(back(one), one), home)
            self.assertEqual(back(back(one)), one)
            self.assertEqual(back(joined(one, other)), joined(back(other), back(one)))
            for told in (joined(one, other), back(one)):
                self.assertIsInstance(told, tuple)
                self.assertEqual([sorted(order) for order in told], list(home))

    def test_joined_number_by_number(self):
        draw = Random(16)
        for n in range(1, 10):
            one, other = drawn_renaming(draw, n), drawn_renaming(draw, n)
            told = joined(one, other)
            for part in range(3):
                for k in range(n):
                    self.assertEqual(told[part][k], other[part][one[part][k]])
                    self.assertEqual(back(one)[part][one[part][k]], k)


class NoOrders(unittest.TestCase):
    def bad_lists(self, n):
        good = list(range(n))
        bad = [[], good[:-1], [*good, n], [*good, 0], [0] * 100, [n] * n, [*good[:-1], n], [*good[:-1], -1],
               [-1, *good[1:]], [*good[:-1], FORTY], [*good[:-1], -FORTY], [k + 1 for k in good]]
        if n > 1:
            bad += [[*good[:-1], 0], [-k for k in good], [1, *good[1:]]]
        return bad

    def renamings_with_a_bad_list(self, n):
        draw = Random(n)
        for bad in self.bad_lists(n):
            for place in range(3):
                renaming = drawn_renaming(draw, n)
                yield place, (*renaming[:place], list(bad), *renaming[place + 1:])

    def test_with_a_square(self):
        for n in range(1, 10):
            square = drawn_square(Random(n), n)
            for place, renaming in self.renamings_with_a_bad_list(n):
                check_refused(self, NoOrder, renamed, square, renaming)

    def test_of_another_size_than_the_square(self):
        for n in range(1, 10):
            for size in range(0, 12):
                if size != n:
                    order = list(range(size))
                    renaming = (order, list(order), list(order))
                    check_refused(self, NoOrder, renamed, round_square(n), renaming)

    def test_alone(self):
        for n in range(1, 10):
            for place, renaming in self.renamings_with_a_bad_list(n):
                check_refused(self, NoOrder, back, renaming)

    def test_either_of_two(self):
        for n in range(1, 10):
            good = drawn_renaming(Random(n), n)
            for place, renaming in self.renamings_with_a_bad_list(n):
                check_refused(self, NoOrder, joined, renaming, good)
                check_refused(self, NoOrder, joined, good, renaming)

    def test_two_of_unlike_sizes(self):
        for one in range(1, 10):
            for other in range(1, 10):
                if one != other:
                    draw = Random(one)
                    check_refused(self, NoOrder, joined, drawn_renaming(draw, one), drawn_renaming(draw, other))

    def test_of_no_size(self):
        for n in (0, 10, 11, 100):
            draw = Random(n)
            one, other = drawn_renaming(draw, n), drawn_renaming(draw, n)
            check_refused(self, NoOrder, back, one)
            check_refused(self, NoOrder, joined, one, other)


class Own(unittest.TestCase):
    def pairs(self):
        for n in (1, 2, 4, 9):
            draw = Random(n)
            yield draw, n, drawn_square(draw, n), drawn_square(draw, n)

    def test_square_functions(self):
        for draw, n, one, other in self.pairs():
            check_own(self, look_at_square, (one,), (other,))
            check_own(self, cells, (one,), (other,))
            for turning in TURNINGS:
                check_own(self, turned, (one, turning), (other, turning))

    def test_renaming_functions(self):
        for draw, n, one, other in self.pairs():
            renamings = [drawn_renaming(draw, n) for time in range(4)]
            home = (list(range(n)), list(range(n)), list(range(n)))
            check_own(self, renamed, (one, renamings[0]), (other, renamings[1]))
            check_own(self, renamed, (one, home), (one, renamings[0]))
            check_own(self, back, (renamings[0],), (renamings[1],))
            check_own(self, back, (home,), (renamings[1],))
            check_own(self, joined, (renamings[0], renamings[1]), (renamings[2], renamings[3]))
            check_own(self, joined, (home, home), (renamings[2], renamings[3]))

    def test_one_order_handed_in_at_three_places(self):
        for n in range(1, 10):
            order = drawn_order(Random(n), n)
            same = (order, order, order)
            for told in (back(same), joined(same, same)):
                self.assertEqual(len({id(part) for part in told}), 3)
                self.assertNotIn(id(order), [id(part) for part in told])

    def test_one_row_handed_in_at_several_places(self):
        row = [0, 1, 2]
        self.assertEqual(check_refused(self, NoSquare, look_at_square, [row, row, row]).place, 3)

    def test_turnings_asked_again(self):
        for one in TURNINGS:
            check_own(self, joined_turnings, (one, "ctr"), (one, "ctr"))
