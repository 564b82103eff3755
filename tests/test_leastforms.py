import unittest
from itertools import permutations
from math import factorial
from random import Random

from squaremates.leastforms import alike, alike_count, least_form, main_form, selves
from tests.helpers import (
    TURNINGS, UNEVEN, all_orders, all_squares, check_own, drawn_renaming, drawn_square, drawn_squares,
    plain_renamed, plain_turned, round_square,
)

SAMPLES = [*drawn_squares(7, range(1, 6), 3), *[round_square(n) for n in range(1, 7)], *UNEVEN.values()]
ROUND_SIX = [
    [0, 1, 2, 3, 4, 5], [1, 0, 3, 2, 5, 4], [2, 3, 4, 5, 0, 1],
    [3, 2, 5, 4, 1, 0], [4, 5, 0, 1, 2, 3], [5, 4, 1, 0, 3, 2],
]


def all_renamings(n):
    orders = all_orders(n)
    return [(rows, columns, things) for rows in orders for columns in orders for things in orders]


def all_alike(square):
    """Each square to which a renaming takes this one, once for each such renaming."""
    return [plain_renamed(square, renaming) for renaming in all_renamings(len(square))]


def named_by_first_row(square, columns, top):
    """The lines of the square, the one from the row top first, with the things so named that it is rising."""
    names = {square[top][c]: k for k, c in enumerate(columns)}
    lines = [[names[row[c]] for c in columns] for row in square]
    return [lines[top], *lines[:top], *lines[top + 1:]]


def least_by_orders(square):
    """The first of all squares by all orders of rows and columns, the things named by the first row."""
    found = []
    for columns in permutations(range(len(square))):
        for top in range(len(square)):
            first, *rest = named_by_first_row(square, columns, top)
            found.append(min([first, *others] for others in permutations(rest)))
    return min(found)


def selves_by_going_through(square):
    """Each image of the first row and each order of columns set the things; the rows must then all be there."""
    n = len(square)
    many = 0
    for columns in permutations(range(n)):
        for top in range(n):
            things = {square[0][c]: square[top][columns[c]] for c in range(n)}
            moved = []
            for row in square:
                line = [None] * n
                for c in range(n):
                    line[columns[c]] = things[row[c]]
                moved.append(line)
            many += sorted(moved) == sorted(square)
    return many


class LeastForm(unittest.TestCase):
    def test_by_hand(self):
        self.assertEqual(least_form([[0]]), ([[0]], ([0], [0], [0])))
        self.assertEqual(least_form([[1, 0], [0, 1]])[0], [[0, 1], [1, 0]])
        self.assertEqual(least_form([[2, 1, 0], [1, 0, 2], [0, 2, 1]])[0], [[0, 1, 2], [1, 2, 0], [2, 0, 1]])
        self.assertEqual(least_form(round_square(4))[0],
                         [[0, 1, 2, 3], [1, 0, 3, 2], [2, 3, 1, 0], [3, 2, 0, 1]])
        self.assertEqual(least_form(round_square(5))[0], round_square(5))
        self.assertEqual(least_form(round_square(6))[0], ROUND_SIX)

    def test_least_of_all_renamed_of_small_sizes(self):
        squares = [*all_squares(1), *all_squares(2), *all_squares(3), *drawn_squares(8, [4], 4), round_square(4)]
        for square in squares:
            self.assertEqual(least_form(square)[0], min(all_alike(square)))

    def test_least_by_all_orders(self):
        for square in [*drawn_squares(9, [2, 3, 4, 5], 3), round_square(5), *UNEVEN.values(), round_square(6)]:
            self.assertEqual(least_form(square)[0], least_by_orders(square))

    def test_told_renaming_takes_it_there(self):
        for square in SAMPLES:
            n = len(square)
            told = least_form(square)
            self.assertIsInstance(told, tuple)
            form, renaming = told
            self.assertIsInstance(renaming, tuple)
            self.assertEqual([sorted(order) for order in renaming], [list(range(n))] * 3)
            self.assertEqual(plain_renamed(square, renaming), form)

    def test_form_of_renamed_ones_and_of_itself(self):
        draw = Random(10)
        for square in SAMPLES:
            form, renaming = least_form(square)
            self.assertEqual(form[0], list(range(len(square))))
            self.assertEqual([row[0] for row in form], list(range(len(square))))
            self.assertEqual(least_form(form)[0], form)
            for time in range(3):
                other = plain_renamed(square, drawn_renaming(draw, len(square)))
                other_form, other_renaming = least_form(other)
                self.assertEqual(other_form, form)
                self.assertEqual(plain_renamed(other, other_renaming), form)

    def test_forms_of_all_squares(self):
        for n, many in ((1, 1), (2, 1), (3, 1), (4, 2)):
            squares = all_squares(n)
            forms = [least_form(square)[0] for square in squares]
            kinds = [list(map(list, kind)) for kind in {tuple(map(tuple, form)) for form in forms}]
            self.assertEqual(len(kinds), many)
            for kind in kinds:
                self.assertEqual(forms.count(kind), alike_count(kind))


class Alike(unittest.TestCase):
    def check_leads(self, one, other):
        told = alike(one, other)
        self.assertIsInstance(told, tuple)
        self.assertEqual([sorted(order) for order in told], [list(range(len(one)))] * 3)
        self.assertEqual(plain_renamed(one, told), other)

    def test_renamed_ones(self):
        draw = Random(11)
        for square in SAMPLES:
            self.check_leads(square, square)
            other = plain_renamed(square, drawn_renaming(draw, len(square)))
            self.check_leads(square, other)
            self.check_leads(other, square)

    def test_just_where_a_renaming_leads_there(self):
        squares = all_squares(4)
        square = round_square(4)
        reached = all_alike(square)
        for other in squares[::7]:
            if other in reached:
                self.check_leads(square, other)
            else:
                self.assertIsNone(alike(square, other))
        self.assertIsNone(alike(square, [[0, 1, 2, 3], [1, 0, 3, 2], [2, 3, 0, 1], [3, 2, 1, 0]]))

    def test_just_where_the_forms_are_the_same(self):
        squares = [*drawn_squares(12, [5], 6), round_square(5)]
        self.check_all_pairs(squares)
        self.check_all_pairs([round_square(6), *UNEVEN.values(), plain_turned(UNEVEN["tcr"], "tcr")])

    def check_all_pairs(self, squares):
        forms = [least_by_orders(square) for square in squares]
        unlike = 0
        for one, form in zip(squares, forms):
            for other, other_form in zip(squares, forms):
                if form == other_form:
                    self.check_leads(one, other)
                else:
                    unlike += 1
                    self.assertIsNone(alike(one, other))
        self.assertGreater(unlike, 0)


class Selves(unittest.TestCase):
    def test_known_ones(self):
        self.assertEqual([selves(round_square(n)) for n in range(1, 7)], [1, 4, 18, 32, 100, 72])
        self.assertEqual(selves([[0, 1, 2, 3], [1, 0, 3, 2], [2, 3, 0, 1], [3, 2, 1, 0]]), 96)

    def test_by_all_renamings_of_small_sizes(self):
        for square in [*all_squares(2), *all_squares(3)[:4], *drawn_squares(13, [4], 3)]:
            self.assertEqual(selves(square), all_alike(square).count(square))

    def test_by_going_through(self):
        for square in SAMPLES:
            self.assertEqual(selves(square), selves_by_going_through(square))

    def test_of_turned_and_renamed_ones(self):
        draw = Random(14)
        for square in SAMPLES:
            other = plain_renamed(square, drawn_renaming(draw, len(square)))
            self.assertEqual(selves(other), selves(square))
            self.assertEqual(selves(plain_turned(square, draw.choice(TURNINGS))), selves(square))


class AlikeCount(unittest.TestCase):
    def test_as_many_as_renamings_by_selves(self):
        self.assertEqual([alike_count(round_square(n)) for n in range(1, 7)], [1, 2, 12, 432, 17280, 5184000])
        for square in SAMPLES:
            told = alike_count(square)
            self.assertIsInstance(told, int)
            self.assertEqual(told * selves_by_going_through(square), factorial(len(square)) ** 3)

    def test_as_many_as_there_are(self):
        for square in [round_square(1), round_square(2), round_square(3), *drawn_squares(15, [4], 3)]:
            there = {str(other) for other in all_alike(square)}
            self.assertEqual(alike_count(square), len(there))


class MainForm(unittest.TestCase):
    def check(self, square):
        told = main_form(square)
        self.assertIsInstance(told, tuple)
        form, turning = told
        forms = [least_form(plain_turned(square, other))[0] for other in TURNINGS]
        self.assertEqual(form, min(forms))
        self.assertEqual(turning, TURNINGS[forms.index(form)])
        return form

    def test_first_of_the_forms_by_the_first_turning(self):
        for square in SAMPLES:
            self.check(square)

    def test_squares_whose_turned_ones_are_unlike(self):
        for turning, square in UNEVEN.items():
            self.assertEqual(main_form(square)[1], turning)
            forms = {str(least_form(plain_turned(square, other))[0]) for other in TURNINGS}
            self.assertEqual(len(forms), 3)

    def test_round_square_of_six(self):
        self.assertEqual(main_form(round_square(6)), (ROUND_SIX, "crt"))

    def test_same_for_turned_and_renamed_ones(self):
        draw = Random(17)
        for square in [*drawn_squares(18, [1, 2, 3, 4, 5], 1), round_square(6), UNEVEN["rct"]]:
            form = main_form(square)[0]
            for turning in TURNINGS:
                other = plain_turned(square, turning)
                self.assertEqual(self.check(other), form)
            renamed = plain_renamed(square, drawn_renaming(draw, len(square)))
            self.assertEqual(self.check(renamed), form)


class Own(unittest.TestCase):
    def test_each_function(self):
        for n in (1, 2, 4, 5):
            draw = Random(n)
            one, other = drawn_square(draw, n), drawn_square(draw, n)
            self.check_all(one, other)
        self.check_all(UNEVEN["tcr"], round_square(6))

    def check_all(self, one, other):
        for function in (least_form, selves, alike_count, main_form):
            check_own(self, function, (one,), (other,))
            check_own(self, function, (least_form(one)[0],), (other,))
        like = plain_renamed(one, drawn_renaming(Random(19), len(one)))
        check_own(self, alike, (one, like), (like, other))
        check_own(self, alike, (one, one), (other, other))

    def test_one_list_handed_in_twice(self):
        for square in SAMPLES:
            told = alike(square, square)
            self.assertEqual(len({id(order) for order in told}), 3)
