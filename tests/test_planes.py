import unittest
from itertools import combinations
from random import Random

from squaremates.makings import field_squares
from squaremates.planes import is_plane, plane_of, set_of
from tests.helpers import FORTY, check_own, drawn_order, drawn_set, is_square, plain_mates

SIZES = (2, 3, 4, 5)
SEVEN = [[0, 1, 4], [0, 2, 5], [0, 3, 6], [1, 2, 6], [1, 3, 5], [2, 3, 4], [4, 5, 6]]


def plain_plane_of(squares):
    """Line for line by the document's words."""
    n = len(squares[0])
    numbers = range(n)
    lines = [[n * r + c for c in numbers] + [n * n] for r in numbers]
    lines += [[n * r + c for r in numbers] + [n * n + 1] for c in numbers]
    for k, square in enumerate(squares):
        for thing in numbers:
            lines.append([n * r + square[r].index(thing) for r in numbers] + [n * n + 2 + k])
    return sorted([*lines, [n * n + k for k in range(n + 1)]])


def meets_once(points, lines):
    """Whether any two points stand together in just one line."""
    return all(len([line for line in lines if one in line and other in line]) == 1
               for one, other in combinations(range(points), 2))


def plain_is_plane(n, lines):
    if n not in SIZES or len(lines) != n * n + n + 1 or lines != sorted(lines):
        return False
    points = n * n + n + 1
    if any(len(line) != n + 1 or line != sorted(line) or len(set(line)) != n + 1 for line in lines):
        return False
    return all(0 <= point < points for line in lines for point in line) and meets_once(points, lines)


def renamed_plane(draw, lines):
    """The same plane with its points numbered otherwise."""
    order = drawn_order(draw, len(lines))
    return sorted(sorted(order[point] for point in line) for line in lines)


def plain_set_of(n, lines, far):
    """Cell by cell by the document's words."""
    through = [[line for place, line in enumerate(lines) if point in line and place != far] for point in lines[far]]
    squares = []
    for k in range(n - 1):
        square = [[None] * n for r in range(n)]
        for r in range(n):
            for c in range(n):
                point, = set(through[0][r]) & set(through[1][c])
                square[r][c], = [number for number, line in enumerate(through[k + 2]) if point in line]
        squares.append(square)
    return squares


def in_order(square):
    """The square with its things so named that its first row is in order."""
    return [[square[0].index(thing) for thing in row] for row in square]


class PlaneOf(unittest.TestCase):
    def test_by_hand(self):
        self.assertEqual(plane_of([[[0, 1], [1, 0]]]), SEVEN)
        self.assertEqual(plane_of([[[1, 0], [0, 1]]]), SEVEN)
        self.assertEqual(plane_of([[[0, 1, 2], [1, 2, 0], [2, 0, 1]], [[0, 1, 2], [2, 0, 1], [1, 2, 0]]]), [
            [0, 1, 2, 9], [0, 3, 6, 10], [0, 4, 8, 12], [0, 5, 7, 11], [1, 3, 8, 11], [1, 4, 7, 10], [1, 5, 6, 12],
            [2, 3, 7, 12], [2, 4, 6, 11], [2, 5, 8, 10], [3, 4, 5, 9], [6, 7, 8, 9], [9, 10, 11, 12],
        ])

    def test_full_sets(self):
        draw = Random(76)
        for n in SIZES:
            for time in range(6):
                full = drawn_set(draw, n, n - 1)
                told = plane_of(full)
                self.assertEqual(told, plain_plane_of(full))
                self.assertEqual(len(told), n * n + n + 1)
                self.assertEqual(told, sorted(sorted(line) for line in told))
                self.assertTrue(meets_once(n * n + n + 1, told))
                self.assertIs(is_plane(n, told), True)


class IsPlane(unittest.TestCase):
    def planes(self):
        draw = Random(77)
        for n in SIZES:
            lines = plane_of(drawn_set(draw, n, n - 1))
            yield n, lines
            for time in range(3):
                yield n, renamed_plane(draw, lines)

    def refused(self, n, lines):
        self.assertIs(is_plane(n, lines), False, (n, lines))

    def test_points_numbered_otherwise(self):
        for n, lines in self.planes():
            self.assertIs(plain_is_plane(n, lines), True)
            self.assertIs(is_plane(n, lines), True)

    def test_other_n(self):
        for n, lines in self.planes():
            for other in (-FORTY, -5, -1, 0, 1, 2, 3, 4, 5, 6, 7, 9, 10 ** 39, FORTY):
                if other != n:
                    self.refused(other, lines)
                    self.refused(other, [])
        for q in (7, 8, 9):
            lines = plane_of(field_squares(q))
            self.assertTrue(meets_once(q * q + q + 1, lines))
            self.refused(q, lines)
        self.refused(0, [[0]])
        self.refused(1, [[0, 1], [0, 2], [1, 2]])
        self.refused(-1, [[]])
        self.refused(-2, [[], [], []])

    def test_too_many_or_too_few_lines(self):
        for n, lines in self.planes():
            for at, line in enumerate(lines):
                self.refused(n, lines[:at] + lines[at + 1:])
                self.refused(n, lines[:at + 1] + lines[at:])
                self.refused(n, lines[:at] + [[]] + lines[at:])
                self.refused(n, lines[:at] + [lines[at - 1]] + lines[at + 1:])
            self.refused(n, [])
            self.refused(n, [[], *lines])
            self.refused(n, [*lines, [n * n + n + 1]])
            self.refused(n, (lines * 20)[:100])
            self.refused(n, [[] for line in lines])

    def test_too_short_or_too_long_lines(self):
        for n, lines in self.planes():
            for at, line in enumerate(lines):
                for bad in ([], line[:-1], line[1:], [*line, n * n + n + 1], [*line, line[-1]], [-1, *line],
                            sorted({*line, 0, 1, n * n + n}), list(range(100))):
                    if bad != line:
                        self.refused(n, sorted([*lines[:at], bad, *lines[at + 1:]]))
                        self.refused(n, [*lines[:at], bad, *lines[at + 1:]])

    def test_another_order(self):
        for n, lines in self.planes():
            self.refused(n, lines[::-1])
            self.refused(n, [*lines[1:], lines[0]])
            for at in range(1, len(lines)):
                self.refused(n, [*lines[:at - 1], lines[at], lines[at - 1], *lines[at + 1:]])

    def test_lines_that_do_not_rise(self):
        for n, lines in self.planes():
            for at, line in enumerate(lines):
                swapped = [[*line[:-2], line[-1], line[-2]], line[::-1], [line[1], line[0], *line[2:]]]
                for bad in [*swapped, [*line[:-1], line[-2]], [line[1], *line[1:]], [line[0]] * (n + 1)]:
                    self.refused(n, sorted([*lines[:at], bad, *lines[at + 1:]]))
                    self.refused(n, [*lines[:at], bad, *lines[at + 1:]])

    def test_points_beyond(self):
        for n, lines in self.planes():
            points = n * n + n + 1
            for place in (0, points - 1):
                for bad in (-1, points, FORTY, -FORTY):
                    changed = [sorted(bad if point == place else point for point in line) for line in lines]
                    self.refused(n, sorted(changed))
            self.refused(n, [[point + 1 for point in line] for line in lines])
            self.refused(n, [[point - 1 for point in line] for line in lines])

    def test_two_points_not_in_just_one_line(self):
        draw = Random(78)
        for n, lines in self.planes():
            points = range(n * n + n + 1)
            for time in range(60):
                changed = [list(line) for line in lines]
                line = draw.choice(changed)
                line[draw.randrange(n + 1)] = draw.choice([point for point in points if point not in line])
                changed = sorted(sorted(some) for some in changed)
                self.assertIs(plain_is_plane(n, changed), False)
                self.refused(n, changed)

    def test_points_exchanged_in_two_lines(self):
        """Each point stays in as many lines as it was in."""
        draw = Random(79)
        for n, lines in self.planes():
            for time in range(20):
                changed = [list(line) for line in lines]
                one, other = draw.sample(changed, 2)
                common, = set(one) & set(other)
                first = draw.choice([at for at in range(n + 1) if one[at] != common])
                second = draw.choice([at for at in range(n + 1) if other[at] != common])
                one[first], other[second] = other[second], one[first]
                changed = sorted(sorted(line) for line in changed)
                self.assertIs(is_plane(n, changed), plain_is_plane(n, changed))


class SetOf(unittest.TestCase):
    def test_by_hand(self):
        for far in range(7):
            self.assertEqual(set_of(2, SEVEN, far), [[[0, 1], [1, 0]]])

    def check(self, n, lines, far):
        told = set_of(n, lines, far)
        self.assertEqual(told, plain_set_of(n, lines, far))
        self.assertEqual(len(told), n - 1)
        self.assertTrue(all(is_square(square) and len(square) == n for square in told))
        self.assertTrue(all(plain_mates(one, other) for one, other in combinations(told, 2)))
        return told

    def test_each_line_far(self):
        draw = Random(80)
        for n in SIZES:
            lines = plane_of(drawn_set(draw, n, n - 1))
            for plane in (lines, renamed_plane(draw, lines), renamed_plane(draw, lines)):
                for far in range(len(plane)):
                    told = self.check(n, plane, far)
                    self.assertIs(is_plane(n, plane_of(told)), True)

    def test_field_squares(self):
        for n in SIZES:
            self.assertEqual(self.check(n, plane_of(field_squares(n)), n * n + n), field_squares(n))

    def test_last_line_of_the_plane_of_a_set(self):
        draw = Random(81)
        for n in SIZES:
            for time in range(8):
                full = drawn_set(draw, n, n - 1)
                told = self.check(n, plane_of(full), n * n + n)
                self.assertEqual(told, [in_order(square) for square in full])
                self.assertTrue(all(square[0] == list(range(n)) for square in told))


class Own(unittest.TestCase):
    def test_each_function(self):
        draw = Random(82)
        for n in SIZES:
            one, other = drawn_set(draw, n, n - 1), drawn_set(draw, n, n - 1)
            check_own(self, plane_of, (one,), (other,))
            lines, others = plane_of(one), renamed_plane(draw, plane_of(other))
            worse = [line[::-1] for line in lines]
            check_own(self, is_plane, (n, lines), (n, others))
            check_own(self, is_plane, (n, lines), (n, worse))
            check_own(self, is_plane, (n, worse), (n, lines))
            for far in (0, n, n * n + n):
                check_own(self, set_of, (n, lines, far), (n, others, far))
