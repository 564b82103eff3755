import unittest
from itertools import combinations
from random import Random

from squaremates.errors import NoRing
from squaremates.exchanges import exchanged, exchanges, fours, parts, put_part, rings
from tests.helpers import (
    FORTY, all_squares, check_own, check_refused, drawn_order, drawn_renaming, drawn_square, drawn_squares,
    is_square, plain_renamed, plain_turned, round_square,
)

SORTS = "rct"
SAMPLES = drawn_squares(14, range(1, 10), 3) + [round_square(n) for n in range(1, 10)]
WRONG_SORTS = ["", "x", "R", "rc", "rct", "crt", " r", "r ", "row", "rr", "0", "ct", "tr", "r" * 99]


def pairs(n):
    return [(i, k) for i in range(n) for k in range(i + 1, n)]


def had(square, sort, number, at):
    """What the row, column or thing of this number has at the place at: a thing, a thing, a row."""
    if sort == "r":
        return square[number][at]
    if sort == "c":
        return square[at][number]
    return [row[at] for row in square].index(number)


def plain_rings(square, sort, i, k):
    """Gone round from each number that is left, by way of what the other one has."""
    left, found = list(range(len(square))), []
    while left:
        ring = {left[0]}
        while True:
            lower = {had(square, sort, k, at) for at in ring}
            more = {at for at in range(len(square)) if had(square, sort, i, at) in lower}
            if more <= ring:
                break
            ring |= more
        found.append(sorted(ring))
        left = [at for at in left if at not in ring]
    return found


def same_had(square, sort, i, k, ring):
    return {had(square, sort, i, at) for at in ring} == {had(square, sort, k, at) for at in ring}


def subsets(things):
    return [set(some) for many in range(1, len(things) + 1) for some in combinations(things, many)]


def least_ones(sets):
    """Those, rising by how many they have, that have no lesser one in them."""
    found = []
    for some in sets:
        if not any(least <= some for least in found):
            found.append(some)
    return found


def plain_exchanged(square, sort, i, k, ring):
    changed = [list(row) for row in square]
    for at in ring:
        if sort == "r":
            changed[i][at], changed[k][at] = square[k][at], square[i][at]
        elif sort == "c":
            changed[at][i], changed[at][k] = square[at][k], square[at][i]
        else:
            changed[had(square, "t", i, at)][at] = k
            changed[had(square, "t", k, at)][at] = i
    return changed


class Rings(unittest.TestCase):
    def test_by_hand(self):
        square = [[0, 1, 2, 3], [1, 0, 3, 2], [3, 2, 0, 1], [2, 3, 1, 0]]
        self.assertEqual(rings(square, "r", 0, 1), [[0, 1], [2, 3]])
        self.assertEqual(rings(square, "r", 0, 2), [[0, 1, 2, 3]])
        self.assertEqual(rings(square, "c", 0, 3), [[0, 1, 2, 3]])
        self.assertEqual(rings(square, "c", 2, 3), [[0, 1], [2, 3]])
        self.assertEqual(rings(square, "t", 0, 1), [[0, 1], [2, 3]])
        self.assertEqual(rings(square, "t", 0, 2), [[0, 1, 2, 3]])
        self.assertEqual(rings(round_square(4), "r", 1, 3), [[0, 2], [1, 3]])
        self.assertEqual(rings(round_square(6), "t", 1, 4), [[0, 3], [1, 4], [2, 5]])
        self.assertEqual(rings([[0, 1, 2], [1, 2, 0], [2, 0, 1]], "c", 0, 2), [[0, 1, 2]])

    def test_gone_round(self):
        for square in SAMPLES:
            for sort in SORTS:
                for i, k in pairs(len(square)):
                    told = rings(square, sort, i, k)
                    self.assertEqual(told, plain_rings(square, sort, i, k))
                    self.assertEqual(sorted(at for ring in told for at in ring), list(range(len(square))))
                    self.assertEqual([ring[0] for ring in told], sorted(ring[0] for ring in told))
                    self.assertTrue(all(ring == sorted(ring) for ring in told))

    def test_least_sets(self):
        for square in SAMPLES:
            n = len(square)
            if n <= 6:
                for sort in SORTS:
                    for i, k in pairs(n):
                        sets = [some for some in subsets(range(n)) if same_had(square, sort, i, k, some)]
                        self.assertEqual(rings(square, sort, i, k), sorted(sorted(ring) for ring in least_ones(sets)))

    def test_columns_and_things_by_turnings(self):
        for square in SAMPLES:
            for i, k in pairs(len(square)):
                self.assertEqual(rings(square, "c", i, k), rings(plain_turned(square, "crt"), "r", i, k))
                self.assertEqual(rings(square, "t", i, k), rings(plain_turned(square, "tcr"), "r", i, k))


class Exchanged(unittest.TestCase):
    def test_by_hand(self):
        square = [[0, 1, 2, 3], [1, 0, 3, 2], [3, 2, 0, 1], [2, 3, 1, 0]]
        self.assertEqual(exchanged(square, "r", 0, 1, [2, 3]),
                         [[0, 1, 3, 2], [1, 0, 2, 3], [3, 2, 0, 1], [2, 3, 1, 0]])
        self.assertEqual(exchanged(square, "c", 2, 3, [0, 1]),
                         [[0, 1, 3, 2], [1, 0, 2, 3], [3, 2, 0, 1], [2, 3, 1, 0]])
        self.assertEqual(exchanged(square, "t", 0, 1, [0, 1]),
                         [[1, 0, 2, 3], [0, 1, 3, 2], [3, 2, 0, 1], [2, 3, 1, 0]])
        self.assertEqual(exchanged(round_square(2), "t", 0, 1, [0, 1]), [[1, 0], [0, 1]])

    def test_to_a_square_and_back(self):
        for square in SAMPLES:
            for sort in SORTS:
                for i, k in pairs(len(square)):
                    for ring in plain_rings(square, sort, i, k):
                        told = exchanged(square, sort, i, k, ring)
                        self.assertTrue(is_square(told))
                        self.assertNotEqual(told, square)
                        self.assertEqual(told, plain_exchanged(square, sort, i, k, ring))
                        self.assertEqual(exchanged(told, sort, i, k, ring), square)

    def test_by_turnings(self):
        for square in SAMPLES:
            for sort, turning in (("c", "crt"), ("t", "tcr")):
                for i, k in pairs(len(square)):
                    ring = plain_rings(square, sort, i, k)[-1]
                    laid = exchanged(plain_turned(square, turning), "r", i, k, ring)
                    self.assertEqual(exchanged(square, sort, i, k, ring), plain_turned(laid, turning))


class NoRings(unittest.TestCase):
    def refused(self, square, sort, i, k, ring):
        check_refused(self, NoRing, exchanged, square, sort, i, k, ring)

    def test_sorts(self):
        for square in SAMPLES:
            for sort in WRONG_SORTS:
                check_refused(self, NoRing, rings, square, sort, 0, 1)
                self.refused(square, sort, 0, 1, list(range(len(square))))

    def test_numbers(self):
        for square in SAMPLES:
            n = len(square)
            wrong = [-FORTY, -2, -1, n, n + 1, FORTY]
            numbers = [(i, k) for i in range(n) for k in range(n) if i >= k]
            numbers += [(i, k) for i in wrong for k in [*range(n), *wrong]]
            numbers += [(i, k) for i in range(n) for k in wrong]
            for sort in SORTS:
                for i, k in numbers:
                    check_refused(self, NoRing, rings, square, sort, i, k)
                    self.refused(square, sort, i, k, list(range(n)))

    def wrong_rings(self, n, good):
        for ring in good:
            yield [ring[-1], *ring[:-1]]
            yield ring[::-1]
            yield ring[:-1]
            yield ring[1:]
            yield [*ring, ring[-1]]
            yield [ring[0], *ring]
            yield [*ring, n]
            yield [-1, *ring]
            yield [*ring[:-1], FORTY]
            yield [-FORTY, *ring[1:]]
            yield [at - n for at in ring]
            yield from [sorted([*ring, at]) for at in range(n)]
        for one, other in zip(good, good[1:]):
            yield sorted([*one, *other])
            yield [*one, *other]
        yield from [[], [0], [n - 1], list(range(n)), list(range(n + 1)), [0] * 100]

    def test_lists(self):
        for square in SAMPLES:
            n = len(square)
            for sort in SORTS:
                for i, k in pairs(n)[:5]:
                    good = plain_rings(square, sort, i, k)
                    for ring in self.wrong_rings(n, good):
                        if ring not in good:
                            self.refused(square, sort, i, k, ring)

    def test_rings_of_other_numbers_and_sorts(self):
        square = [[0, 1, 2, 3], [1, 0, 3, 2], [3, 2, 0, 1], [2, 3, 1, 0]]
        self.refused(square, "r", 0, 2, [0, 1])
        self.refused(square, "r", 0, 1, [0, 1, 2, 3])
        self.refused(square, "c", 0, 3, [2, 3])
        self.refused(square, "t", 0, 2, [0, 1])


class Fours(unittest.TestCase):
    def test_by_hand(self):
        self.assertEqual(fours([[0]]), [])
        self.assertEqual(fours([[1, 0], [0, 1]]), [(0, 1, 0, 1)])
        self.assertEqual(fours(round_square(3)), [])
        self.assertEqual(fours(round_square(4)), [(0, 2, 0, 2), (0, 2, 1, 3), (1, 3, 0, 2), (1, 3, 1, 3)])

    def test_plain_going_through(self):
        for square in SAMPLES:
            n = len(square)
            found = []
            for i in range(n):
                for k in range(i + 1, n):
                    for j in range(n):
                        for l in range(j + 1, n):
                            if len({square[i][j], square[i][l], square[k][j], square[k][l]}) == 2:
                                found.append((i, k, j, l))
            told = fours(square)
            self.assertEqual(told, found)
            self.assertEqual(told, sorted(told))
            for i, k, j, l in told:
                self.assertIn([j, l], plain_rings(square, "r", i, k))


def unlike_places(one, other):
    n = len(one)
    return [(r, c) for r in range(n) for c in range(n) if one[r][c] != other[r][c]]


def is_even(one, other, places):
    """Whether in each row, and in each column, both squares have the same things at these places."""
    for line in (0, 1):
        for number in range(len(one)):
            here = [(r, c) for r, c in places if (r, c)[line] == number]
            if sorted(one[r][c] for r, c in here) != sorted(other[r][c] for r, c in here):
                return False
    return True


def joined_parts(one, other):
    """Places put together as long as a row or a column of the one, at some of them, asks for others."""
    groups = [{place} for place in unlike_places(one, other)]
    for r, c in unlike_places(one, other):
        for row, column in unlike_places(one, other):
            if (r == row) != (c == column) and one[r][c] == other[row][column]:
                mine = [group for group in groups if (r, c) in group or (row, column) in group]
                groups = [group for group in groups if group not in mine] + [set().union(*mine)]
    return sorted(sorted(group) for group in groups)


def drawn_exchanged(draw, square):
    """The square, of two things or more, with what stands in one ring exchanged."""
    sort, (i, k) = draw.choice(SORTS), draw.choice(pairs(len(square)))
    return plain_exchanged(square, sort, i, k, draw.choice(plain_rings(square, sort, i, k)))


class Parts(unittest.TestCase):
    def pairs(self):
        """Pairs of squares of all sizes: drawn ones, and such as lie some exchanges apart."""
        draw = Random(15)
        for n in range(1, 10):
            one = drawn_square(draw, n)
            yield one, drawn_square(draw, n)
            yield one, plain_renamed(one, drawn_renaming(draw, n))
            yield one, one
            other = one
            for time in range(4 if n > 1 else 0):
                other = drawn_exchanged(draw, other)
                yield one, other

    def test_by_hand(self):
        one = [[0, 1, 2, 3], [1, 0, 3, 2], [3, 2, 0, 1], [2, 3, 1, 0]]
        other = [[1, 0, 2, 3], [0, 1, 3, 2], [3, 2, 1, 0], [2, 3, 0, 1]]
        self.assertEqual(parts(one, other), [[(0, 0), (0, 1), (1, 0), (1, 1)], [(2, 2), (2, 3), (3, 2), (3, 3)]])
        self.assertEqual(put_part(one, other, [(2, 2), (2, 3), (3, 2), (3, 3)]),
                         [[0, 1, 2, 3], [1, 0, 3, 2], [3, 2, 1, 0], [2, 3, 0, 1]])
        self.assertEqual(parts([[0, 1], [1, 0]], [[1, 0], [0, 1]]), [[(0, 0), (0, 1), (1, 0), (1, 1)]])

    def plain_parts(self, one, other):
        """Gone through all sets of places at which they are unlike."""
        sets = [some for some in subsets(unlike_places(one, other)) if is_even(one, other, some)]
        return sorted(sorted(part) for part in least_ones(sets))

    def test_all_pairs_of_one_to_three_things(self):
        for n in (1, 2, 3):
            squares = all_squares(n)
            for one in squares:
                for other in squares:
                    self.assertEqual(parts(one, other), joined_parts(one, other))
                    self.assertEqual(parts(one, other), self.plain_parts(one, other))

    def test_least_sets_of_places(self):
        draw = Random(16)
        seen = []
        while len(seen) < 60:
            one = drawn_square(draw, draw.choice([4, 5, 6]))
            other = drawn_exchanged(draw, one)
            if draw.choice([True, False]):
                other = drawn_exchanged(draw, other)
            if len(unlike_places(one, other)) <= 12:
                told = parts(one, other)
                self.assertEqual(told, self.plain_parts(one, other))
                seen.append((len(one), len(told)))
        for wanted in ((4, 1), (4, 2), (5, 1), (6, 1), (6, 2)):
            self.assertIn(wanted, seen)

    def test_each_unlike_place_in_just_one(self):
        for one, other in self.pairs():
            told = parts(one, other)
            self.assertEqual(sorted(place for part in told for place in part), unlike_places(one, other))
            self.assertEqual(told, sorted(sorted(part) for part in told))
            self.assertTrue(all(part and is_even(one, other, part) for part in told))
            self.assertEqual(told, joined_parts(one, other))
            self.assertTrue(all(isinstance(place, tuple) for part in told for place in part))

    def test_same_square_has_none(self):
        for square in SAMPLES:
            self.assertEqual(parts(square, square), [])
            self.assertEqual(parts(square, [list(row) for row in square]), [])

    def test_any_part_put_in(self):
        for one, other in self.pairs():
            for part in parts(one, other):
                told = put_part(one, other, part)
                self.assertTrue(is_square(told))
                self.assertEqual(unlike_places(one, told), part)
                self.assertTrue(all(told[r][c] == other[r][c] for r, c in part))

    def test_put_in_one_by_one(self):
        draw = Random(17)
        for one, other in self.pairs():
            between = parts(one, other)
            left = [between[place] for place in drawn_order(draw, len(between))]
            now = one
            while left:
                self.assertEqual(parts(now, other), sorted(left))
                now = put_part(now, other, left.pop())
                self.assertTrue(is_square(now))
            self.assertEqual(now, other)


def plain_steps(square):
    for sort in SORTS:
        for i, k in pairs(len(square)):
            for ring in plain_rings(square, sort, i, k):
                yield plain_exchanged(square, sort, i, k, ring)


def plain_distances(start):
    """For the text of each square how few exchanges lead there."""
    far = {str(start): 0}
    level = [start]
    while level:
        behind = []
        for square in level:
            for there in plain_steps(square):
                if str(there) not in far:
                    far[str(there)] = far[str(square)] + 1
                    behind.append(there)
        level = behind
    return far


class Exchanges(unittest.TestCase):
    def check(self, one, other, fewest):
        told = exchanges(one, other)
        self.assertIsInstance(told, list)
        now = one
        for step in told:
            self.assertIsInstance(step, tuple)
            sort, i, k, ring = step
            self.assertIn(sort, SORTS)
            self.assertIn((i, k), pairs(len(one)))
            self.assertIn(ring, plain_rings(now, sort, i, k))
            now = plain_exchanged(now, sort, i, k, ring)
        self.assertEqual(now, other)
        self.assertEqual(len(told), fewest)

    def test_all_pairs_of_one_to_three_things(self):
        for n in (1, 2, 3):
            squares = all_squares(n)
            for one in squares:
                far = plain_distances(one)
                self.assertEqual(len(far), len(squares))
                for other in squares:
                    self.check(one, other, far[str(other)])

    def test_four_things(self):
        squares = all_squares(4)
        for one in (round_square(4), [[3, 2, 1, 0], [2, 3, 0, 1], [1, 0, 3, 2], [0, 1, 2, 3]]):
            far = plain_distances(one)
            self.assertEqual(len(far), 576)
            farthest = [square for square in squares if far[str(square)] == max(far.values())]
            for other in [*squares[::9], *farthest[:5]]:
                self.check(one, other, far[str(other)])

    def test_same_square(self):
        for square in SAMPLES:
            if len(square) <= 4:
                self.assertEqual(exchanges(square, square), [])
                self.assertEqual(exchanges(square, [list(row) for row in square]), [])


class Own(unittest.TestCase):
    def check_all(self, one, other):
        for function in (parts, lambda first, second: fours(first)):
            check_own(self, function, (one, other), (other, one))
            check_own(self, function, (one, one), (one, other))
        if len(one) <= 4:
            check_own(self, exchanges, (one, other), (other, one))
            check_own(self, exchanges, (one, one), (one, other))

    def test_of_two_squares(self):
        draw = Random(18)
        for n in range(1, 10):
            self.check_all(drawn_square(draw, n), drawn_square(draw, n))

    def test_of_rings(self):
        draw = Random(19)
        for n in range(2, 10):
            one, other = drawn_square(draw, n), drawn_square(draw, n)
            for sort in SORTS:
                i, k = draw.choice(pairs(n))
                check_own(self, rings, (one, sort, i, k), (other, sort, i, k))
                rings_of_one, rings_of_other = plain_rings(one, sort, i, k), plain_rings(other, sort, i, k)
                check_own(self, exchanged, (one, sort, i, k, rings_of_one[0]), (other, sort, i, k, rings_of_other[0]))

    def test_of_parts(self):
        draw = Random(20)
        for n in range(2, 10):
            one, other, third = drawn_square(draw, n), drawn_square(draw, n), drawn_square(draw, n)
            while third == one:
                third = drawn_square(draw, n)
            if one != other:
                first = (one, other, parts(one, other)[0])
                check_own(self, put_part, first, (one, third, parts(one, third)[0]))

    def test_told_tuples_are_tuples(self):
        for square in SAMPLES:
            self.assertTrue(all(isinstance(four, tuple) for four in fours(square)))
